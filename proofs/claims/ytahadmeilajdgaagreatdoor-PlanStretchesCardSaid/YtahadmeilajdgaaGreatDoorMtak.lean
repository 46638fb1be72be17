/-
  Our own text, joined.
-/
import Derived.Test.YtahadmeilajdgaaGreatDoorMtaj
import Derived.Test.YtahadmeilajdgaaGreatDoorMtag
import Derived.BigQuiet
import Derived.IntWalk
import Derived.Test.YtahadmeilajdgaaGreatDoorMtaa
namespace Go.Proofs.YtahadmeilajdgaaGreatDoor
set_option maxRecDepth 100000
set_option maxHeartbeats 80000000
section
open Go.RowKit
open Go.Great
theorem OwR.draw1 {α:Type}{f:α->List Value}{k:Nat}{e:TypeId}{base:Nat}{w:World}{A:Option Addr}{n c:Nat}{l:List α}(h:OwR f k e base w A n c l):OwR f k e base w.drew A n c l:=h
theorem SlO.draw1 {α:Type}{f:α->List Value}{k:Nat}{w:World}{A:Option Addr}{n c:Nat}{l:List α}(h:SlO f k w A n c l):SlO f k w.drew A n c l:=h
theorem qaP {P:Program}{o:Oper}{a:Act}{w:World}{K:Act->World->Prop}{Q:Exit->Act->World->Prop}(ty:TypeId)(x y:Operand)(ho:o.op= .store ty x y)
  (g i:Nat) (v:Value) (hx:a.eval x= .pointer (some ⟨g,i,none⟩)) (hy:a.eval y=v) (t:TypeId) (old:Array Value) (hg:Has w g t old) (hio:i<old.size) (hi:(P.info? ty).map (·.size)=some 1)
  (h1:v.oneCell'=true) (new:Array Value) (hn:(old.toList.take i++[v]++old.toList.drop (i+1)).toArray=new) (h:K (a.put o.dst undef) (w.setRow g new)):o.wp P a w K Q:=by
 have hc:v.cells=#[v]:=by cases v<;>first|rfl|cases h1
 have hst:=run_storeCells_at P g i t [v] 0 old w hg (by simp;omega) (fun u hu=>by simp at hu;subst hu;exact h1);have hrun:(storeVar ty ⟨g,i,none⟩ v).run P w= .ok () (w.setRow g new):=by
  cases hq:P.info? ty with
  |none=>simp[hq]at hi
  |some j=>
   have hs:j.size=1:=by simpa[hq]using hi
   simp only[Nat.add_zero,List.length_singleton]at hst;rw[hn]at hst;simp[storeVar,sizeOf,typeInfo,hq,hc,hs,hst]
 unfold Oper.wp execOp;simp only[ho,hx,hy,Instr.storeAt,Instr.sureAddr,Sem.run_bind,Sem.run_pure,Result.andThen_ok,hrun];exact h
theorem qf3 {P:Program}{o:Oper}{a:Act}{w:World}{K:Act->World->Prop}{Q:Exit->Act->World->Prop}(ty:TypeId)(x y:Operand)(ho:o.op= .store ty x y)
  (g:Nat) (v:Value) (hx:a.eval x= .pointer (some ⟨g,0,none⟩)) (hy:a.eval y=v) (t:TypeId) (old:Array Value) (hg:Has w g t old) (hold:old.size=1) (hi:(P.info? ty).map (·.size)=some 1)
  (h1:v.oneCell'=true) (h:K (a.put o.dst undef) (w.setRow g #[v])):o.wp P a w K Q:=
 qaP ty x y ho g 0 v hx hy t old hg (by omega) hi h1 #[v] (by
  have:old.toList.length=1:=by simpa using hold
  obtain⟨u,hu⟩:=List.length_eq_one_iff.1 this;rw[hu]
  rfl) h
theorem qap {P:Program}{ops:Array Oper}{rest:List Oper}{o:Oper}{a:Act}{w:World}{Q:Exit->Act->World->Prop}(hgd:o.guard=none)(ty:TypeId)(x y:Operand)(ho:o.op= .store ty x y)
  (g i:Nat) (v:Value) (hx:a.eval x= .pointer (some ⟨g,i,none⟩)) (hy:a.eval y=v) (t:TypeId) (old:Array Value) (hg:Has w g t old) (hio:i<old.size) (hi:(P.info? ty).map (·.size)=some 1)
  (h1:v.oneCell'=true) (new:Array Value) (hn:(old.toList.take i++[v]++old.toList.drop (i+1)).toArray=new) (h:wpList P ops Q rest (a.put o.dst undef) (w.setRow g new)):wpList P ops Q (o::rest) a w:=
 wpList_plain hgd fun _ hK=>qaP ty x y ho g i v hx hy t old hg hio hi h1 new hn (hK _ _ h)
theorem opc1_any (route:List St3)(s:St3)(A:Option Addr)(n c:Nat)(g:Nat)(w:World)(hg:Has w g 30 (stA13 s))(hs:SlO stC 2 w A n c route)(hn:n<=1048576):
  Calls Tryz.prog 41 #[.slice A n c,.pointer (some ⟨g,0,none⟩)] w fun r w'=>r= .returned (.bool (qb1 route s))/\Below w.heap.size w w':=by
 have H:=zq (qft route s A n c w hs hn);have HG:=zq hg;generalize qb1 route s=R at*;clear hg hs;go_enter Tryz.func41,Tryz.ntmps41;go_wp2_with (with_reducible refine ldZ 5 HG.out ?_);refine H.out.mono ?_;rintro e_ w1 ⟨rfl,hb1⟩;have HB1:=zq hb1;clear hb1 H HG;go_wp2;go_ret
 exact⟨rfl,HB1.out⟩
theorem opc3_any (route steps path:List St3)(A B C:Option Addr)(n c m d k x:Nat)(ga gp:Nat)(w:World)(ha:Has w ga 35 #[.slice B m d])(hp:Has w gp 35 #[.slice C k x])(hr:SlO stC 2 w A n c route)(hs:SlO stC 2 w B m d steps)(hq:SlO stC 2 w C k x path)(hn:n<=1048576)(hm:m<=1048576)(hk:k<=1048576):
  Calls Tryz.prog 46 #[.slice A n c,.pointer (some ⟨ga,0,none⟩),.pointer (some ⟨gp,0,none⟩)] w fun r w'=>r= .returned (.bool (qc5 route steps &&!qeL route path))/\Below w.heap.size w w':=by
 have a0:w.cell? ⟨ga,0,none⟩=some (.slice B m d):=ha.cell 0;have HP:=zq hp;have H:=zq (opbegins_any route steps A B n c m d w hr hs hm);have HM:=zq (fun W (hW:Below w.heap.size w W)=>opmeets_any route path A C n c k x W (hr.under hW) (hq.under hW) hn hk);generalize qc5 route steps=b1 at*;generalize qeL route path=b2 at*;clear ha hp hr hs hq;go_enter Tryz.func46,Tryz.ntmps46;go_wp2_with fail;refine H.out.mono ?_;rintro e_ w1 ⟨rfl,hb1⟩;have HB1:=zq hb1;have p0:w1.cell? ⟨gp,0,none⟩=some (.slice C k x):=(HP.out.u hb1).cell 0;have HM1:=zq (HM.out w1 hb1);clear hb1 a0 H HM HP
 cases b1 with
 |false=>
  go_wp2;go_ret
  exact⟨rfl,HB1.out⟩
 |true=>
  go_wp2_with fail;refine HM1.out.mono ?_;rintro e_ w2 ⟨rfl,hb2⟩;have HB2:=tB HB1 hb2;clear hb2 p0;go_wp2;go_ret
  exact⟨by simp,HB2.out⟩
theorem opc2a_any (t:Tp3)(a:TpA)(k:Lc3)(s:St3)(gs:Nat)(gf gt:Nat)(w:World)(ht:TopR w t a)(hl:qaH t=true)(hF:Has w gf 84 #[.func (.func 41) #[] #[.pointer (some ⟨gs,0,none⟩)]])(hT:Has w gt 27 (tpC t a))(hS:Has w gs 30 (stA13 s)):
  Calls Tryz.prog 44 #[.agg (lcA k),.pointer (some ⟨gf,0,none⟩),.pointer (some ⟨gt,0,none⟩)] w fun r w'=>r= .returned (.bool (qb1 (pathR t k.route) s))/\Below w.heap.size w w':=by
 obtain⟨kr,kt,kn⟩:=k;have HPO:=zq (fun W (hW:Below w.heap.size w W)=>qen t a ⟨kr,kt,kn⟩ W (ht.under hW) hl);have HPF:=zq (qbB hl kr);unfold lcA at HPO⊢;dsimp only at HPO⊢;obtain⟨rp,hrp⟩: ∃p,pathR t kr=p:=⟨_,rfl⟩
 rw[hrp]at HPO HPF⊢;clear hrp;obtain⟨wa,hwa,hbwa,HWA,HBWA,h0⟩:=bx1Z w 73 #[.int .i64 kr,.int .i64 kt,.int .i64 kn];have HF:=zq (hF.u hbwa);have HTT:=zq (hT.u hbwa);have HL0:=zq h0;have HSS:=zq (hS.u hbwa);clear hS;clear hwa hbwa h0 hF hT ht hl;go_enter Tryz.func44,Tryz.ntmps44;go_upto_region 1 with fail;rw[HWA.out];clear HWA;refine wp_region_held_drew (S:=(fun W_=>(Has W_ (gf) 84 #[.func (.func 41) #[] #[.pointer (some ⟨gs,0,none⟩)]])/\(Has W_ (gt) 27 (tpC t a))/\(Has W_ (w.heap.size) 73 #[.int .i64 kr,.int .i64 kt,.int .i64 kn])/\(Below wa.heap.size wa W_)/\(Has W_ (gs) 30 (stA13 s)))) (by kernel_rfl) ?_ (fun hHeld=>?_)
 ·exact⟨HF.out.draw,HTT.out.draw,HL0.out.draw,qaf (Below.refl _ _),HSS.out.draw⟩
 refine tqZ 0 5 (fun w_ ⟨s0,s1,s2,s3,s4⟩=>(show w_.cell? ⟨gf,0,none⟩=some (.func (.func 41) #[] #[.pointer (some ⟨gs,0,none⟩)]:Value)from s0.cell 0)) (h:=?_);simp only[lyZ];refine tlZ 1 6 gt (tpC t a) (fun _ ⟨_,h_,_,_,_⟩=>h_) (h:=?_);simp only[lyZ];refine tlZ 2 7 w.heap.size #[.int .i64 kr,.int .i64 kt,.int .i64 kn] (fun _ ⟨_,_,h_,_,_⟩=>h_) (h:=?_);simp only[lyZ];refine aoZ 3 (some 8) (fun K hK=>?_);go_simp;obtain⟨s0,s1,s2,s3,s4⟩:=hHeld;refine(HPO.out _ (bu HBWA.out s3)).mono ?_;rintro e_ q1 ⟨X,x,rfl,hsl_,hb_⟩;have HSL:=zq (hsl_);go_wp2_with fail;refine hK.out _ _ ?_ (fun hHeld=>?_)
 ·exact⟨s0.u hb_,s1.u hb_,s2.u hb_,bu s3 hb_,s4.u hb_⟩
 clear hK K s0 s1 s2 s3 s4
 try simp only[lyZ]
 refine aoZ 4 (some 9) (fun K hK=>?_);go_simp;obtain⟨s0,s1,s2,s3,s4⟩:=hHeld;refine(opc1_any rp s X _ x gs _ s4 HSL.out (by have:=HPF.out;omega)).mono ?_;rintro e_ q2 ⟨rfl,hb2_⟩;have HSL:=zq (HSL.out.under hb2_);go_wp2_with fail;refine hK.out _ _ ?_ (fun hHeld=>?_)
 ·exact⟨s0.u hb2_,s1.u hb2_,s2.u hb2_,bu s3 hb2_,s4.u hb2_⟩
 clear hK K s0 s1 s2 s3 s4
 try simp only[lyZ]
 refine tkZ 5 4 (h:=?_);simp only[lyZ];refine dnZ ?_;have HB1:=zq (HBWA.out.trans (hHeld.2.2.2.1.mono HBWA.out.size));clear hHeld;go_wp2;go_ret
 exact⟨rfl,HB1.out⟩
theorem opc2b_any (t:Tp3)(a:TpA)(k:Lc3)(steps path:List St3)(B C:Option Addr)(m d j x:Nat)(ga gp:Nat)(gf gt:Nat)(w:World)(ht:TopR w t a)(hl:qaH t=true)(hF:Has w gf 84 #[.func (.func 46) #[] #[.pointer (some ⟨ga,0,none⟩),.pointer (some ⟨gp,0,none⟩)]])(hT:Has w gt 27 (tpC t a))(ha:Has w ga 35 #[.slice B m d])(hp:Has w gp 35 #[.slice C j x])(hs:SlO stC 2 w B m d steps)(hq:SlO stC 2 w C j x path)(hm:m<=1048576)(hj:j<=1048576):
  Calls Tryz.prog 44 #[.agg (lcA k),.pointer (some ⟨gf,0,none⟩),.pointer (some ⟨gt,0,none⟩)] w fun r w'=>r= .returned (.bool (qc5 (pathR t k.route) steps &&!qeL (pathR t k.route) path))/\Below w.heap.size w w':=by
 obtain⟨kr,kt,kn⟩:=k;have HPO:=zq (fun W (hW:Below w.heap.size w W)=>qen t a ⟨kr,kt,kn⟩ W (ht.under hW) hl);have HPF:=zq (qbB hl kr);unfold lcA at HPO⊢;dsimp only at HPO⊢;obtain⟨rp,hrp⟩: ∃p,pathR t kr=p:=⟨_,rfl⟩
 rw[hrp]at HPO HPF⊢;clear hrp;obtain⟨wa,hwa,hbwa,HWA,HBWA,h0⟩:=bx1Z w 73 #[.int .i64 kr,.int .i64 kt,.int .i64 kn];have HF:=zq (hF.u hbwa);have HTT:=zq (hT.u hbwa);have HL0:=zq h0;have HA:=zq (ha.u hbwa);have HP:=zq (hp.u hbwa);have HS:=zq (fun W (hW:Below w.heap.size w W)=>hs.under hW);have HQ:=zq (fun W (hW:Below w.heap.size w W)=>hq.under hW);clear ha hp hs hq;clear hwa hbwa h0 hF hT ht hl;go_enter Tryz.func44,Tryz.ntmps44;go_upto_region 1 with fail;rw[HWA.out];clear HWA;refine wp_region_held_drew (S:=(fun W_=>(Has W_ (gf) 84 #[.func (.func 46) #[] #[.pointer (some ⟨ga,0,none⟩),.pointer (some ⟨gp,0,none⟩)]])/\(Has W_ (gt) 27 (tpC t a))/\(Has W_ (w.heap.size) 73 #[.int .i64 kr,.int .i64 kt,.int .i64 kn])/\(Below wa.heap.size wa W_)/\(Has W_ (ga) 35 #[.slice B m d])/\(Has W_ (gp) 35 #[.slice C j x]))) (by kernel_rfl) ?_ (fun hHeld=>?_)
 ·exact⟨HF.out.draw,HTT.out.draw,HL0.out.draw,qaf (Below.refl _ _),HA.out.draw,HP.out.draw⟩
 refine tqZ 0 5 (fun w_ ⟨s0,s1,s2,s3,s4,s5⟩=>(show w_.cell? ⟨gf,0,none⟩=some (.func (.func 46) #[] #[.pointer (some ⟨ga,0,none⟩),.pointer (some ⟨gp,0,none⟩)]:Value)from s0.cell 0)) (h:=?_);simp only[lyZ];refine tlZ 1 6 gt (tpC t a) (fun _ ⟨_,h_,_,_,_,_⟩=>h_) (h:=?_);simp only[lyZ];refine tlZ 2 7 w.heap.size #[.int .i64 kr,.int .i64 kt,.int .i64 kn] (fun _ ⟨_,_,h_,_,_,_⟩=>h_) (h:=?_);simp only[lyZ];refine aoZ 3 (some 8) (fun K hK=>?_);go_simp;obtain⟨s0,s1,s2,s3,s4,s5⟩:=hHeld;refine(HPO.out _ (bu HBWA.out s3)).mono ?_;rintro e_ q1 ⟨X,x_,rfl,hsl_,hb_⟩;have HSL:=zq (hsl_);go_wp2_with fail;refine hK.out _ _ ?_ (fun hHeld=>?_)
 ·exact⟨s0.u hb_,s1.u hb_,s2.u hb_,bu s3 hb_,s4.u hb_,s5.u hb_⟩
 clear hK K s0 s1 s2 s3 s4 s5
 try simp only[lyZ]
 refine aoZ 4 (some 9) (fun K hK=>?_);go_simp;obtain⟨s0,s1,s2,s3,s4,s5⟩:=hHeld;refine(opc3_any rp steps path X B C _ x_ m d j x ga gp _ s4 s5 HSL.out (HS.out _ (bu HBWA.out s3)) (HQ.out _ (bu HBWA.out s3)) (by have:=HPF.out;omega) hm hj).mono ?_;rintro e_ q2 ⟨rfl,hb2_⟩;have HSL:=zq (HSL.out.under hb2_);go_wp2_with fail;refine hK.out _ _ ?_ (fun hHeld=>?_)
 ·exact⟨s0.u hb2_,s1.u hb2_,s2.u hb2_,bu s3 hb2_,s4.u hb2_,s5.u hb2_⟩
 clear hK K s0 s1 s2 s3 s4 s5
 try simp only[lyZ]
 refine tkZ 5 4 (h:=?_);simp only[lyZ];refine dnZ ?_;have HB1:=zq (HBWA.out.trans (hHeld.2.2.2.1.mono HBWA.out.size));clear hHeld;go_wp2;go_ret
 exact⟨rfl,HB1.out⟩
theorem oix_c2 (p:Lc3->Bool)(l:List Lc3)(A:Option Addr)(n c:Nat)(gf gt:Nat)(w:World)(hs:SlO lcC 3 w A n c l)(hbig:n<=1048576)
  (HE:Hid (∀(x:Lc3) W,Below w.heap.size w W->Calls Tryz.prog 44 #[.agg (lcA x),.pointer (some ⟨gf,0,none⟩),.pointer (some ⟨gt,0,none⟩)] W fun e w'=>e= .returned (.bool (p x))/\Below W.heap.size W w')):
  Calls Tryz.prog 43 #[.slice A n c,.func (.func 44) #[] #[.pointer (some ⟨gf,0,none⟩),.pointer (some ⟨gt,0,none⟩)]] w fun e w'=>e= .returned (.int .i64 (idxL p l))/\Below w.heap.size w w':=by
 try unfold lcA at HE
 have HN:Hid (l.length=n):=zq hs.len13;have HW:=zq hs;clear hs;have x0:(0:Int)<=n:=by omega
 obtain⟨R,hR⟩:=geZ (idxL p l);have HR:=zq hR;rw[hR];clear hR;go_enter Tryz.func43,Tryz.ntmps43;go_wp2;go_loopg [8] n (fun kk v wl=> ∃j:Nat,j<=n/\n-j<=kk/\v= .int .i64 j/\Hid (∀i x,i<j->l[i]?=some x->p x=false)/\Hid (Below w.heap.size w wl))
 case atStart=>exact⟨0,by omega,by omega,rfl,zq fun i x h=>absurd h (by omega),zq (Below.refl _ _)⟩
 obtain⟨j,hj,hjk,rfl,HNO,HBL⟩:=hrel;by_cases hlt:j<n
 ·obtain⟨x,hx⟩:=glZ l (j) (by rw[HN.out];omega)
  obtain⟨bk,off,rfl,d0,d1,d2⟩:=(HW.out.under HBL.out).lock hx;have HX:=zq hx;have y0:(0:Int)<=j:=by omega
  have y1:(j:Int)<n:=by omega
  have HC:=zq (HE.out x wr HBL.out);clear hx;generalize hb:p x=b at*;have HBE:=zq hb;clear hb
  cases b with
  |true=>
   have HF:Hid (R=j):=zq (by rw[<-HR.out];exact qbE HX.out HBE.out HNO.out);go_upto_region 4 with fail;go_wp2_with fail;refine HC.out.mono ?_;rintro e w1 ⟨rfl,hb1⟩;have HB1:=tB HBL hb1;clear hb1 d0 d1 d2 HBE HNO;go_wp2;go_ret
   exact⟨by rw[HF.out];rfl,HB1.out⟩
  |false=>
   go_upto_region 4 with fail;go_wp2_with fail;refine HC.out.mono ?_;rintro e w1 ⟨rfl,hb1⟩;have HB1:=tB HBL hb1;have HN2:Hid (∀i y,i<j+1->l[i]?=some y->p y=false):=zq fun i y hi hy=>by
    by_cases h:i=j
    ·subst h;rw[HX.out]at hy;cases hy;exact HBE.out
    ·exact HNO.out i y (by omega) hy
   clear hb1 d0 d1 d2 HBE HNO;go_wp2;go_roundg (gk-1)
   case measure=>omega
   case rel=>exact⟨j+1,by omega,by omega,by go_num,HN2,HB1⟩
 ·have y1: ¬(j:Int)<n:=by omega
  have HF:Hid (R= -1):=zq (by rw[<-HR.out];exact qbc fun i y hi hy=>HNO.out i y (by have:=HN.out;omega) hy);go_wp2;go_ret
  exact⟨by rw[HF.out];rfl,HBL.out⟩
theorem after_few17 {t:Tp3}(s:St3):(qau t s).length<=2*t.edges.length:=by
 unfold qau;split
 ·have h: ∀L:List Nat,(L.flatMap (qbK t s)).length<=2*L.length:=fun L=>by
   induction L with
   |nil=>simp
   |cons x r ih=>
    rw[List.flatMap_cons,List.length_append,List.length_cons];have h1:(qbK t s x).length<=2:=by
     unfold qbK;rw[List.length_append];split<;>split<;>simp
    omega
  have h2:=h (List.range t.edges.length);rw[List.length_range]at h2;exact h2
 ·simp
structure FitsR17 (W:World) (t:Tp3) (out:List Lc3) (gf gs gp:Nat):Prop where
 first:out=[]->Has W gf 84 #[.func (.func 41) #[] #[.pointer (some ⟨gs,0,none⟩)]]
 next:out≠[]-> ∃ga B m d,Has W ga 35 #[.slice B m d]/\SlO stC 2 W B m d (qau t (lastS (wayC t out)))/\m<=1048576/\Has W gf 84 #[.func (.func 46) #[] #[.pointer (some ⟨ga,0,none⟩),.pointer (some ⟨gp,0,none⟩)]]
theorem FitsR17.under {W W':World}{t:Tp3}{out:List Lc3}{gf gs gp:Nat}(h:FitsR17 W t out gf gs gp)(hb:Below W.heap.size W W'):FitsR17 W' t out gf gs gp:=
 ⟨fun e=>(h.first e).under hb (h.first e).lt,fun e=>by
  obtain⟨ga,B,m,d,h1,h2,h3,h4⟩:=h.next e;exact⟨ga,B,m,d,h1.u hb,h2.under hb,h3,h4.u hb⟩⟩
theorem FitsR17.cell {W:World}{t:Tp3}{out:List Lc3}{gf gs gp:Nat}(h:FitsR17 W t out gf gs gp): ∃v,Has W gf 84 #[v]/\isBool17 v=false:=by
 by_cases e:out=[]
 ·exact⟨_,h.first e,rfl⟩
 ·obtain⟨ga,B,m,d,h1,h2,h3,h4⟩:=h.next e
  exact⟨_,h4,rfl⟩
theorem opc2_any (t:Tp3)(a:TpA)(out:List Lc3)(s:St3)(k:Lc3)(gf gt gs gp:Nat)(PX:Option Addr)(pn px:Nat)(w:World)(ht:TopR w t a)(hl:qaH t=true)(hF:FitsR17 w t out gf gs gp)(hT:Has w gt 27 (tpC t a))(hS:Has w gs 30 (stA13 s))(hp:Has w gp 35 #[.slice PX pn px])(hq:SlO stC 2 w PX pn px (wayC t out))(hpn:pn<=1048576):
  Calls Tryz.prog 44 #[.agg (lcA k),.pointer (some ⟨gf,0,none⟩),.pointer (some ⟨gt,0,none⟩)] w fun r w'=>r= .returned (.bool (fitsO t s out (pathR t k.route)))/\Below w.heap.size w w':=by
 by_cases e:out=[]
 ·have h:=opc2a_any t a k s gs gf gt w ht hl (hF.first e) hT hS
  unfold fitsO;rw[if_pos (by rw[e];rfl)];exact h
 ·obtain⟨ga,B,m,d,h1,h2,h3,h4⟩:=hF.next e
  have h:=opc2b_any t a k _ (wayC t out) B PX m d pn px ga gp gf gt w ht hl h4 hT h1 hp h2 hq h3 hpn;unfold fitsO;rw[if_neg (by cases out with|nil=>exact absurd rfl e|cons _ _=>simp)];exact h
theorem SlO.lockA {w:World}{b off n c:Nat}{l:List Lc3}(h:SlO lcC 3 w (some ⟨b,off,none⟩) n c l){j:Nat}{x:Lc3}(hx:l[j]?=some x):w.cell? ⟨b,off+j*3,none⟩=some (.int .i64 x.route)/\w.cell? ⟨b,off+j*3+1,none⟩=some (.int .i64 x.train)/\w.cell? ⟨b,off+j*3+2,none⟩=some (.int .i64 x.no):=by
 obtain⟨b',o',e,h1,h2,h3⟩:=h.lock hx;injection e with e
 injection e with e1 e2 _
 subst e1 e2;exact⟨h1,h2,h3⟩
theorem opn_chain (t:Tp3)(a:TpA)(l:List Lc3)(train:Int)(s:St3)(A:Option Addr)(n c:Nat)(w:World)(ht:TopR w t a)(hl:qaH t=true)(hcj:t.joints.length<=a.cj)(hs:SlO lcC 3 w A n c l)(_:n<=c)(hn:n<=100):Calls Tryz.prog 12 #[.agg (tpC t a),.slice A n c,.int .i64 train,.agg (stA13 s)] w fun r w'=> ∃X x,r= .returned (.slice X (qc2 t l train s).length x)/\LkT w' X (qc2 t l train s).length x (qc2 t l train s)/\Below w.heap.size w w':=by
 obtain⟨wa,hwa,hbwa,HWA,HBWA,h0,h1⟩:=bx2Z w 27 (tpC t a) 30 (stA13 s);have HT:=zq (fun W (hW:Below wa.heap.size wa W)=>(ht.under hbwa).under hW);have H0:=zH h0;have H1:=zH h1;have HLT:=zq hl;have HCJ:=zq hcj;have HS:=zq (fun W (hW:Below wa.heap.size wa W)=>(hs.under hbwa).under hW);have HL:=zq hs.1;have HNB:=zq hn;have HBZ:=zq hbwa.size;obtain⟨CL,hCL⟩: ∃L,qc2 t l train s=L:=⟨_,rfl⟩
 rw[hCL];have HCL:=zq hCL;clear hwa hbwa h0 h1 ht hl hcj hs hn hCL;go_enter Tryz.func12,Tryz.ntmps12;go_upto_region 1 with fail;rw[HWA.out];clear HWA;go_wp2_with (with_reducible refine ldZ 15 (H0.out wa (Below.refl _ _)) ?_);refine(qfB t a wa (HT.out _ (Below.refl _ _)) HLT.out HCJ.out).mono ?_;rintro e_ w1 ⟨rfl,hb1⟩;have HB1:=zq hb1;clear hb1;by_cases z0:qaE t=0;rotate_left
 ·have q0:(qaE t !=0)=true:=by simp[z0]
  obtain rfl:CL=[]:=by rw[<-HCL.out];unfold qc2;rw[if_neg z0]
  go_wp2;go_ret
  exact⟨none,0,rfl,LkT.none _,HBWA.out.trans (HB1.out.mono HBWA.out.size)⟩
 have HZ:=zq z0;have HCG:=zq (show qb5 t l train s 8 []=CL from by rw[<-HCL.out];unfold qc2;rw[if_pos z0]);rw[z0];clear z0 HCL;go_wp2_with fail;refine(oolof_any l train A n c w1 (HS.out w1 HB1.out) (by have:=HNB.out;omega)).mono ?_;rintro e_ w2 ⟨X0,k0,x0,rfl,ho,hb2⟩;have HKB:Hid (k0<=100):=zq (by have h0_:=ho.1.1;have h1_:=HL.out;have h2_:=HNB.out;have h3_:(ofL l train).length<=l.length:=List.length_filter_le _ _;omega);have HB2:=tB HB1 hb2;obtain⟨O,hO⟩:=geZ (ofL l train);rw[hO]at ho;have HOL:=zq hO;have HO2:=zq ho.1;clear ho hb2 hO HB1;go_upto_region 6 with fail;obtain⟨u1,hu1⟩: ∃u,w2.alloc (.cells #[.slice none 0 0] 35)=u:=⟨_,rfl⟩
 rw[hu1];have hH1:Has u1 w2.heap.size 35 #[.slice none 0 0]:=by rw[<-hu1];exact Has.made _ _ _
 have hbu1:Below w2.heap.size w2 u1:=by rw[<-hu1];exact bA
 have hsz1:u1.heap.size=w2.heap.size+1:=by rw[<-hu1];simp
 clear hu1;obtain⟨gp,hgp⟩: ∃g,w2.heap.size=g:=⟨_,rfl⟩
 rw[hgp]at hH1 hsz1;simp only[hgp];have HGE:=zq hgp;clear hgp;have hm_:Has (u1.alloc (.cells #[.nilFunc] 84)) (gp+1) 84 #[.nilFunc]:=qbz hsz1;have HM:=zq hm_;obtain⟨u2,hu2⟩: ∃u,(u1.alloc (.cells #[.nilFunc] 84)).setRow (gp+1) #[.func (.func 41) #[] #[.pointer (some ⟨w.heap.size+1,0,none⟩)]]=u:=⟨_,rfl⟩
 have hbu2:Below w2.heap.size w2 u2:=by rw[<-hu2];exact qab (g:=gp+1) (hbu1.alloc hbu1.size _) (by have:=hbu1.size;omega) _
 have HGF:=zq (show Has u2 (gp+1) 84 #[.func (.func 41) #[] #[.pointer (some ⟨w.heap.size+1,0,none⟩)]]from by rw[<-hu2];exact qaa hm_ _);have HPB:=zq (show Has u2 gp 35 #[.slice none 0 0]from by rw[<-hu2];exact qad (hH1.beside _) (by omega) _);have HSZ:=zq (show u2.heap.size=gp+2/\w2.heap.size<=gp from by rw[<-hu2];refine⟨by simp;omega,by have:=HGE.out;omega⟩);have HU2:=zq hu2;have HBU:=zq (show Below wa.heap.size wa u2/\Below w2.heap.size w2 u2/\u2.heap.size<=u2.heap.size from⟨bu HB2.out hbu2,hbu2,Nat.le_refl _⟩);have HG0:=zq (show w.heap.size+1<w2.heap.size from by have h1_:=HBZ.out;have h2_:=HB2.out.size;have h3_:=(H1.out wa (Below.refl _ _)).lt;omega);clear hu2 hbu2 hm_ hbu1 hH1;go_upto_region 7 with(with_reducible refine qap (o:=⟨none,_,_,_,_,_⟩) rfl 84 _ _ rfl (gp+1) 0 (.func (.func 41) #[] #[.pointer (some ⟨w.heap.size+1,0,none⟩)]) rfl rfl 84 #[.nilFunc] HM.out (Nat.le_of_ble_eq_true rfl) (by kernel_rfl) rfl #[.func (.func 41) #[] #[.pointer (some ⟨w.heap.size+1,0,none⟩)]] rfl ?_)
 rw[HU2.out];clear HU2 HM hsz1;obtain⟨gf,hgf⟩: ∃g,gp+1=g:=⟨_,rfl⟩
 rw[hgf]at HGF;simp only[hgf];have HGP:=zq hgf;clear hgf
 try simp only[Act.put]
 go_loopg [10] 8 (fun kk v10 wl=> ∃(k:Nat) (X:Option Addr) (x:Nat) (out:List Lc3) (PX:Option Addr) (pn px:Nat),k<=8/\8-k<=kk/\v10= .slice X k x/\Hid (qb5 t l train s (8-k) out=CL)/\Hid (ChainP t l train s out)/\Hid (OwR lcC 3 73 u2.heap.size wl X k x out)/\Hid (Has wl gp 35 #[.slice PX pn px])/\Hid (OwR stC 2 30 u2.heap.size wl PX pn px (wayC t out))/\Hid (FitsR17 wl t out gf (w.heap.size+1) gp)/\Hid (Below wa.heap.size wa wl/\Below w2.heap.size w2 wl/\u2.heap.size<=wl.heap.size))
 case atStart=>exact⟨0,none,0,[],none,0,0,by omega,by omega,rfl,HCG,zq .nil,zq (OwR.nil _ _ _ _ _),HPB,zq (OwR.nil _ _ _ _ _),zq ⟨fun _=>HGF.out,fun h=>absurd rfl h⟩,HBU⟩
 clear HCG HPB HGF HBU;obtain⟨k,X,x,out,PX,pn,px,hk,hkk,rfl,HCG,HCP,HOC,HPB,HPO,HFT,HBU⟩:=hrel;obtain⟨k1,hk1⟩: ∃k1,k1=gk:=⟨_,rfl⟩
 subst hk1;obtain⟨wv,hwv⟩: ∃wv,wv=wr:=⟨_,rfl⟩
 subst hwv;have HK8:=zq (show k<=8/\8-k<=k1 from⟨hk,hkk⟩);have HB:=zq HBU.out.1;by_cases z1:k<8;rotate_left
 ·have z1': ¬(k:Int)<8:=by omega
  have HF:=zq (show out=CL from by have h_:=HCG.out;rw[qeE (.inl z1)]at h_;exact h_);clear hk hkk;go_wp2;go_ret
  have hl_:CL.length=k:=by rw[<-HF.out];exact HOC.out.2
  rw[hl_,<-HF.out];exact⟨X,x,rfl,LkT.of_own HOC.out,HBWA.out.trans (HB.out.mono HBWA.out.size)⟩
 have z1':(k:Int)<8:=by omega
 have HK1:=zq z1;clear z1;have HFD:=zq (find_own17 HZ.out HCP.out);rw[HOL.out]at HFD;obtain⟨pw,hpw⟩: ∃p,wayC t out=p:=⟨_,rfl⟩
 have HPW:=zq hpw;have HPF:=zq (show pn<=800 from by have h1_:=way_few17 HLT.out out;have h2_:=HPO.out.2;have h3_:=HOC.out.2;omega);have HPO1:=zq (show OwR stC 2 30 u2.heap.size wv PX pn px pw from by rw[<-hpw];exact HPO.out);have HIX:=zq (oix_c2 (fun y=>fitsO t s out (pathR t y.route)) O X0 k0 x0 gf (w.heap.size) wv (HO2.out.under HBU.out.2.1) (by have:=HKB.out;omega) (zq fun y W hW=>opc2_any t a out s y gf (w.heap.size) (w.heap.size+1) gp PX pn px W (HT.out W (bu HB.out hW)) HLT.out (HFT.out.under hW) (H0.out W (bu HB.out hW)) (H1.out W (bu HB.out hW)) (HPB.out.u hW) ((HPO.out.under hW).sl) (by have:=HPF.out;omega)));clear hpw
 rcases qbO (fun y=>fitsO t s out (pathR t y.route)) O 0 with⟨h1,h2⟩|⟨i,y,h1,h2,h3,h4⟩
 ·have hfn:l.find? (okC t train s out)=none:=by rw[HFD.out,List.find?_eq_none];intro z hz;obtain⟨j,hj,rfl⟩:=List.getElem_of_mem hz;rw[h2 j _ (List.getElem?_eq_getElem hj)];decide
  rw[show idxL (fun y=>fitsO t s out (pathR t y.route)) O= -1 from h1]at HIX;clear h1 h2;go_upto_region 8 with fail;clear z1';go_wp2_with fail;refine HIX.out.mono ?_;rintro e_ w5 ⟨rfl,hb5⟩;have HOC5:=zq (HOC.out.under hb5);have HB5:=tB HB hb5;clear hb5 HIX;have HF:=zq (show out=CL from by have h_:=HCG.out;rw[qeE (.inr hfn)]at h_;exact h_);clear hk hkk;go_wp2;go_ret
  have hl_:CL.length=k:=by rw[<-HF.out];exact HOC5.out.2
  rw[hl_,<-HF.out];exact⟨X,x,rfl,LkT.of_own HOC5.out,HBWA.out.trans (HB5.out.mono HBWA.out.size)⟩
 have e0:idxL (fun y=>fitsO t s out (pathR t y.route)) O=(i:Int):=by unfold idxL;rw[h4];congr 1;omega
 rw[e0]at HIX;have HFO:=zq (show l.find? (okC t train s out)=some y from HFD.out.trans (find_some17 h1 h2 h3));have hik:i<k0:=by have h_:=(List.getElem?_eq_some_iff.1 h1).1;have:=HO2.out.1;omega
 have HYI:=zq h1;have HIK:=zq (show i<k0/\k0<=100 from⟨hik,HKB.out⟩);have x1:(i:Int)<k0:=by omega
 have x2:(0:Int)<=i:=by omega
 have x3: ¬(i:Int)<0:=by omega
 clear h1 h2 h3 h4 e0 hik HFD;go_upto_region 8 with fail;clear z1';go_wp2_with fail;refine HIX.out.mono ?_;rintro e_ w5 ⟨rfl,hb5⟩;have HB5:=tB HB hb5;have HU5:=zq (show Below w2.heap.size w2 w5/\u2.heap.size<=w5.heap.size from⟨HBU.out.2.1.trans (hb5.mono HBU.out.2.1.size),Nat.le_trans HBU.out.2.2 hb5.size⟩);have HOC5:=zq (HOC.out.under hb5);have HPO5:=zq (HPO1.out.under hb5);have HPB5:=uH HPB hb5;obtain⟨fv,hfv,hfb⟩:=(HFT.out.under hb5).cell;have HFB:=zq (show noB17 #[fv]=true from by unfold noB17;simp[hfb]);have HFV:=zq hfv;clear hb5 hfv hfb HIX HFT HPB HOC HPO HPO1;obtain⟨bk,off,rfl,d0,d1,d2⟩:=(HO2.out.under HU5.out.1).lock HYI.out;have HLC:=zq (fun W (hW:Below w2.heap.size w2 W)=>(HO2.out.under hW).lockA HYI.out);have HNC:=zq ((chain_next17 HK1.out HFO.out).symm.trans HCG.out);have HNP:=zq (qfX HCP.out HFO.out);have HWN:=zq (show wayC t (out++[y])=pw++pathR t y.route from by rw[wayC_app,wayC_one,HPW.out]);have HRT:=zq (okC_rt (List.find?_some HFO.out));obtain⟨kr,kt,kn⟩:=y;dsimp only at d0 d1 d2 HLC HWN HRT;go_upto_region 10 with fail;clear x3;obtain⟨hN,hO,hC,h1,hBD⟩:=pushR (f:=lcC) (k:=3) (e:=73) (w:=w5) 24 ⟨kr,kt,kn⟩ #[.int .i64 kr,.int .i64 kt,.int .i64 kn] rfl rfl (one_lc16 _) HOC5.out HU5.out.2 (by have:=HK8.out;omega) (by omega);have HBW:=zq (show Below wa.heap.size wa (w5.alloc (.cells #[.int .i64 kr,.int .i64 kt,.int .i64 kn] 73))from HB5.out.alloc HB5.out.size _);have HBW2:=zq (show Below w2.heap.size w2 (w5.alloc (.cells #[.int .i64 kr,.int .i64 kt,.int .i64 kn] 73))from HU5.out.1.alloc HU5.out.1.size _);have HLN:=zq HOC5.out.2;go_wp2_with (with_reducible refine qao (o:=⟨some 36,_,_,_,_,_⟩) rfl (.tmp 30) (.tmp 35) 28 rfl u2.heap.size 73 (.agg #[.int .i64 0,.int .i64 0,.int .i64 0]) 3 24 Tryz.underlying28 qdF ?hz (by decide) X (k) x ((out).flatMap lcC) ?hs hO ⟨w5.heap.size,0,none⟩ 1 1 (lcC ⟨kr,kt,kn⟩) ?hx hN hC h1 hBD ?next)
 all_goals try rfl
 intro X2 x2_ w6 ho hg;have HOC6:=zq (OwR.snoc HLN.out ho.out);have HPO6:=zq ((HPO5.out.under ((Below.refl _ _).alloc (Nat.le_refl _) (.cells #[.int .i64 kr,.int .i64 kt,.int .i64 kn] 73))).kept hg.out (OwR.two (HPO5.out.under ((Below.refl _ _).alloc (Nat.le_refl _) (.cells #[.int .i64 kr,.int .i64 kt,.int .i64 kn] 73))) (⟨hO.out,HLN.out⟩:OwR lcC 3 73 u2.heap.size _ X k x out) (by decide)));have hlow: ∀g,g<u2.heap.size->some g≠(Value.slice X k x).ownBlock:=fun g hg_ e_=>by have:=(hO.out.lt g e_.symm).1;omega
 have hgp2:gp<u2.heap.size/\gf<u2.heap.size:=by have h1_:=HSZ.out;have h2_:=HGP.out;omega
 have HPB6:=zq ((HPB5.out.beside (.cells #[.int .i64 kr,.int .i64 kt,.int .i64 kn] 73)).grow hg.out (hlow _ hgp2.1));have HFV6:=zq ((HFV.out.beside (.cells #[.int .i64 kr,.int .i64 kt,.int .i64 kn] 73)).grow hg.out (hlow _ hgp2.2));have HB6:=zq (qai HBW.out HBW.out.size hO.out (by have h1_:=HSZ.out;have h2_:=HB2.out.size;omega) rfl hg.out);have HU6:=zq (show Below w2.heap.size w2 w6/\u2.heap.size<=w6.heap.size from⟨qai HBW2.out HBW2.out.size hO.out (by have h1_:=HSZ.out;omega) rfl hg.out,Nat.le_trans (by simpa using Nat.le_succ_of_le HU5.out.2) hg.out.size⟩);clear ho hg hN hO hC h1 hBD HBW HBW2 HLN HOC5 HPO5 HPB5 HFV HB5 HU5 hlow hgp2 d0 d1 d2;obtain⟨k2,hk2⟩: ∃j,k+1=j:=⟨_,rfl⟩
 obtain⟨out2,hout2⟩: ∃o,out++[(⟨kr,kt,kn⟩:Lc3)]=o:=⟨_,rfl⟩
 rw[hk2,hout2]at HOC6;rw[hk2]at HNC;rw[hout2]at HNC HNP HWN;simp only[hk2];have HKK:=zq (show k2<=8/\8-k2<=k1-1/\1<=k1 from by have h1_:=HK8.out;have h2_:=HK1.out;omega);have HON:=zq (show out2≠[]from by rw[<-hout2];simp);clear hk2 hout2 HCG HCP HFO HK8 HK1 hk hkk;have HPA:=zq (fun W (hW:Below wa.heap.size wa W)=>qen t a ⟨kr,kt,kn⟩ W (HT.out W hW) HLT.out);have HR8:=zq (path_some17 HZ.out HRT.out);have HPL:=zq (qbB HLT.out kr);unfold lcA at HPA;dsimp only at HPA HRT;obtain⟨rp,hrp⟩: ∃p,pathR t kr=p:=⟨_,rfl⟩
 rw[hrp]at HPA HR8 HPL HWN;obtain⟨rn,hrn⟩: ∃m,rp.length=m:=⟨_,rfl⟩
 rw[hrn]at HPA HR8 HPL;have HRN:=zq hrn;clear hrp hrn;have hg1:w2.heap.size<=gp:=HSZ.out.2;have hg2:gp+1=gf:=HGP.out;have hg3:w.heap.size+1<w2.heap.size:=HG0.out;have hg4:gp+2<=w6.heap.size:=by have h1_:=HSZ.out.1;have h2_:=HU6.out.2;omega
 go_upto_region 11 with fail;go_cut [10] (fun s10 wx=>s10= .slice X2 k2 x2_/\ ∃PX3 px3,Has wx gp 35 #[.slice PX3 (pn+rn) px3]/\OwR stC 2 30 u2.heap.size wx PX3 (pn+rn) px3 (pw++rp)/\OwR lcC 3 73 u2.heap.size wx X2 k2 x2_ out2/\Has wx gf 84 #[fv]/\Below w2.heap.size w2 wx/\Below wa.heap.size wa wx/\u2.heap.size<=wx.heap.size)
 case first=>
  have HS6:=zq (show u2.heap.size<=w6.heap.size from HU6.out.2);refine wp_region_held_drew (S:=(fun W_=>(Has W_ (w.heap.size) 27 (tpC t a))/\(Below w2.heap.size w2 W_))) (by kernel_rfl) ?_ (fun hHeld=>?_)
  ·exact⟨(H0.out _ HB6.out).draw,qaf HU6.out.1⟩
  have HPB6:=zq HPB6.out.draw;have HFV6:=zq HFV6.out.draw;have HPO6:=zq HPO6.out.draw1;have HOC6:=zq HOC6.out.draw1;refine tlZ 1 38 w.heap.size (tpC t a) (fun _ ⟨h_,_⟩=>h_) (h:=?_);simp only[lyZ];refine tkZ 2 39 (h:=?_);simp only[lyZ];refine tkZ 3 40 (h:=?_);simp only[lyZ];refine tkZ 4 41 (h:=?_);simp only[lyZ];refine tkZ 5 42 (hy:=by intro w_ hSw;(try dsimp only at hSw);obtain⟨s0,s1⟩:=hSw;(have q_:=HLC.out w_ s1);obtain⟨q0_,q1_,q2_⟩:=q_;go_simp<;>with_reducible rfl) (h:=?_);simp only[lyZ];refine rdZ [0,6] (acZ (some 37) (fun K hK=>?za2) (acZ (some 43) (fun K hK=>?zb2) AllReadyH.nil))
  case' za2=>
   skip;obtain⟨s0,s1⟩:=hHeld;have q_:=HPB6.out.cell 0;go_simp;clear q_;refine hK.out _ _ ?_ (fun hHeld=>?_)
   ·exact⟨s0,s1⟩
   clear hK K s0 s1
   try simp only[lyZ]
   refine aoZ 6 (some 43) (fun K hK=>?_);go_simp;obtain⟨s0,s1⟩:=hHeld;refine(HPA.out _ (bu HB2.out s1)).mono ?_;rintro e_ q1 ⟨RX,rx,rfl,hsl_,hb_⟩;have HS6:=zq (show u2.heap.size<=q1.heap.size from Nat.le_trans HS6.out hb_.size);have HPB6:=uH HPB6 hb_;have HFV6:=uH HFV6 hb_;have HPO6:=zq (HPO6.out.under hb_);have HOC6:=zq (HOC6.out.under hb_);have HSL:=zq (hsl_);go_wp2_with fail;refine hK.out _ _ ?_ (fun hHeld=>?_)
   ·exact⟨s0.u hb_,bu s1 hb_⟩
  case' zb2=>
   go_simp;obtain⟨s0,s1⟩:=hHeld;refine(HPA.out _ (bu HB2.out s1)).mono ?_;rintro e_ q1 ⟨RX,rx,rfl,hsl_,hb_⟩;have HS6:=zq (show u2.heap.size<=q1.heap.size from Nat.le_trans HS6.out hb_.size);have HPB6:=uH HPB6 hb_;have HFV6:=uH HFV6 hb_;have HPO6:=zq (HPO6.out.under hb_);have HOC6:=zq (HOC6.out.under hb_);have HSL:=zq (hsl_);go_wp2_with fail;refine hK.out _ _ ?_ (fun hHeld=>?_)
   ·exact⟨s0.u hb_,bu s1 hb_⟩
   clear hK K s0 s1
   try simp only[lyZ]
   refine aoZ 0 (some 37) (fun K hK=>?_);skip;obtain⟨s0,s1⟩:=hHeld;have q_:=HPB6.out.cell 0;go_simp;clear q_;refine hK.out _ _ ?_ (fun hHeld=>?_)
   ·exact⟨s0,s1⟩
  all_goals
   clear hK K s0 s1
   try simp only[lyZ]
   refine aoZ 7 (some 44) (fun K hK=>?_);skip;obtain⟨s0,s1⟩:=hHeld;obtain⟨hO,hSL,h1,hBD⟩:=pourR 16 HPO6.out HSL.out qc0 HS6.out (by have h1_:=HPF.out;have h2_:=HPL.out;omega) (by omega);refine qfP (o:=⟨some 44,_,_,_,_,_⟩) (by rfl) (.tmp 37) (.tmp 43) 35 (by rfl) u2.heap.size 30 (.agg #[.int .i64 0,.bool false]) 2 16 Tryz.underlying35 qa6 (by rfl) (by decide) PX pn px _ (by rfl) hO RX rn rx _ (by rfl) hSL h1 hBD ?_;intro X3 x3 u3 ho hg;have hlow: ∀g,g<u2.heap.size->some g≠(Value.slice PX pn px).ownBlock:=fun g hg_ e_=>by have:=(hO.out.lt g e_.symm).1;omega
   have HB3:=zq (qai s1 s1.size hO.out (by have h1_:=HSZ.out;omega) rfl hg.out);have HPB6:=zq (HPB6.out.grow hg.out (hlow _ (by have:=HSZ.out;omega)));have HFV6:=zq (HFV6.out.grow hg.out (hlow _ (by have:=HSZ.out;omega)));have HOC6:=zq (HOC6.out.kept hg.out (OwR.two HOC6.out HPO6.out (by decide)));have HPO6:=zq (OwR.poured HPO6.out.2 HRN.out ho.out);have HS6:=zq (show u2.heap.size<=u3.heap.size from Nat.le_trans HS6.out hg.out.size);have hgt:some (w.heap.size)≠(Value.slice PX pn px).ownBlock:=hlow _ (by have:=HSZ.out;omega);refine hK.out _ _ ?_ (fun hHeld=>?_)
   ·exact⟨s0.grow hg.out hgt,HB3.out⟩
   clear hK K s0 s1
   try simp only[lyZ]
   refine aoZ 8 none (fun K hK=>?_);rw[if_pos (by rfl)];obtain⟨s0,s1⟩:=hHeld;refine qaP 35 _ _ rfl (gp) 0 (.slice X3 (pn+rn) x3) (by rfl) (by rfl) 35 #[.slice PX pn px] HPB6.out (Nat.le_of_ble_eq_true rfl) (by kernel_rfl) rfl #[.slice X3 (pn+rn) x3] rfl ?_;have HFV6:=zq (qad (g:=gp) HFV6.out (by omega) #[.slice X3 (pn+rn) x3]);have HPO6:=zq (HPO6.out.kept (qal _ _ #[.slice X3 (pn+rn) x3]) (.inr (HPO6.out.apart HPB6.out (by decide))));have HOC6:=zq (HOC6.out.kept (qal _ _ #[.slice X3 (pn+rn) x3]) (.inr (HOC6.out.apart HPB6.out (by decide))));refine hK.out _ _ ?_ (fun hHeld=>?_)
   ·exact⟨qad s0 (by omega) _,qab s1 (by omega) _⟩
   have HPB6:=zq (qaa HPB6.out #[.slice X3 (pn+rn) x3]);clear hK K s0 s1
   try simp only[Act.put]
   refine dnZ ?_;go_wp2_with fail;go_meet
   exact⟨rfl,X3,x3,HPB6.out,HPO6.out,HOC6.out,HFV6.out,hHeld.2,HB2.out.trans (hHeld.2.mono HB2.out.size),by have h_:=HS6.out;simpa using h_⟩
 obtain⟨rfl,PX3,px3,hpb_,hpo_,hoc_,hfv_,hb2_,hba_,hu_⟩:=hcut;obtain⟨w7,hw7⟩: ∃u,u=wc:=⟨_,rfl⟩
 subst hw7;obtain⟨pn2,hpn2⟩: ∃m,pn+rn=m:=⟨_,rfl⟩
 obtain⟨pw2,hpw2⟩: ∃p,pw++rp=p:=⟨_,rfl⟩
 rw[hpn2,hpw2]at hpo_;rw[hpn2]at hpb_;rw[hpw2]at HWN;have HPN2:=zq (show 1<=pn2/\pn2<=900 from by have h1_:=HR8.out;have h2_:=HPF.out;have h3_:=HPL.out;omega);obtain⟨gx,hgx,_,_⟩:=hpo_.some (by have:=HPN2.out;omega);subst hgx;have HL2:=zq hpo_.2;obtain⟨ls,hls⟩: ∃s,lastS pw2=s:=⟨_,rfl⟩
 have HLA:=zq (show pw2[pn2-1]?=some ls from by rw[<-hls,<-HL2.out];exact last_at17 (by rw[HL2.out];exact HPN2.out.1));have HLL:=zq hls;have HPO7:=zq hpo_;have HPB7:=zq hpb_;have HOC7:=zq hoc_;have HFV7:=zq hfv_;have HBX:=zq (show Below wa.heap.size wa w7/\Below w2.heap.size w2 w7/\u2.heap.size<=w7.heap.size from⟨hba_,hb2_,hu_⟩);have HLS:=zq (fun W (hW:Below w7.heap.size w7 W)=>qcm (HPO7.out.under hW) HLA.out);have hg5:gp+2<=w7.heap.size:=by have h1_:=HSZ.out.1;omega
 obtain⟨al,hal⟩: ∃l,qau t ls=l:=⟨_,rfl⟩
 have HAL:=zq hal;obtain⟨an,han⟩: ∃n,al.length=n:=⟨_,rfl⟩
 have HAN:=zq han;have HAF:=zq (show an<=1048576 from by rw[<-han,<-hal];have h1_:=after_few17 (t:=t) ls;have h2_:=(qax HLT.out).1;omega);obtain⟨le,lr⟩:=ls;dsimp only at HLS;clear hpb_ hpo_ hoc_ hfv_ hb2_ hba_ hu_ hpn2 hpw2 hls hal han HPO6 HPB6 HOC6 HFV6 HB6 HU6 HRN;go_upto_region 12 with fail;have hw1:IntKind.i64.wrap ((pn2:Int)-1)=(pn2:Int)-1:=by rw[IntKind.wrap_i64];have h1_:=HPN2.out;omega
 have hw2:((pn2:Int)-1).toNat=pn2-1:=by omega
 have u1_:(0:Int)<=(pn2:Int)-1:=by have:=HPN2.out;omega
 have u2_:(pn2:Int)-1<pn2:=by omega
 have u3_:(1:Int)<=(pn2:Int):=by have:=HPN2.out;omega
 go_cut [14] (fun s14 wx=> ∃ga A5 c5,w7.heap.size<=ga/\s14= .pointer (some ⟨ga,0,none⟩)/\Has wx ga 35 #[.slice A5 an c5]/\SlO stC 2 wx A5 an c5 al/\Has wx gp 35 #[.slice (some ⟨gx,0,none⟩) pn2 px3]/\OwR stC 2 30 u2.heap.size wx (some ⟨gx,0,none⟩) pn2 px3 pw2/\OwR lcC 3 73 u2.heap.size wx X2 k2 x2_ out2/\Has wx gf 84 #[fv]/\Below w7.heap.size w7 wx)
 case first=>
  refine wp_region_held_drew (S:=(fun W_=>(Has W_ (w.heap.size) 27 (tpC t a))/\(Has W_ (gp) 35 #[.slice (some ⟨gx,0,none⟩) pn2 px3])/\(Below w7.heap.size w7 W_))) (by kernel_rfl) ?_ (fun hHeld=>?_)
  ·exact⟨(H0.out _ HBX.out.1).draw,HPB7.out.draw,qaf (Below.refl _ _)⟩
  have HPO7:=zq HPO7.out.draw1;have HOC7:=zq HOC7.out.draw1;have HFV7:=zq HFV7.out.draw;refine tlZ 0 45 w.heap.size (tpC t a) (fun _ ⟨h_,_,_⟩=>h_) (h:=?_);simp only[lyZ];refine tqZ 1 46 (fun w_ ⟨s0,s1,s2⟩=>(show w_.cell? ⟨gp,0,none⟩=some (.slice (some ⟨gx,0,none⟩) pn2 px3:Value)from s1.cell 0)) (h:=?_);simp only[lyZ];refine tqZ 2 47 (fun w_ ⟨s0,s1,s2⟩=>(show w_.cell? ⟨gp,0,none⟩=some (.slice (some ⟨gx,0,none⟩) pn2 px3:Value)from s1.cell 0)) (h:=?_);simp only[lyZ];refine tkZ 3 48 (h:=?_);simp only[lyZ];refine tkZ 4 49 (h:=?_);simp only[lyZ];refine tkZ 5 50 (h:=?_);simp only[lyZ];refine tqZ 6 51 (fun w_ ⟨s0,s1,s2⟩=>And.intro ((HLS.out w_ s2).1) ((HLS.out w_ s2).2)) (h:=?_);simp only[lyZ];refine rdZ [7,8] (acZ (some 52) (fun K hK=>?za3) (acZ (some 14) (fun K hK=>?zb3) AllReadyH.nil))
  case' za3=>
   go_simp;obtain⟨s0,s1,s2⟩:=hHeld;refine(qdf t a ⟨le,lr⟩ _ (HT.out _ (HBX.out.1.trans (s2.mono HBX.out.1.size))) HLT.out).mono ?_;rw[HAL.out,HAN.out];rintro e_ q1 ⟨A5,c5,rfl,hs5_,hb_⟩;have HPO7:=zq (HPO7.out.under hb_);have HOC7:=zq (HOC7.out.under hb_);have HFV7:=uH HFV7 hb_;have HSA:=zq (hs5_);go_wp2_with fail;refine hK.out _ _ ?_ (fun hHeld=>?_)
   ·exact⟨s0.u hb_,s1.u hb_,bu s2 hb_⟩
   clear hK K s0 s1 s2
   try simp only[lyZ]
   refine aoZ 8 (some 14) (fun K hK=>?_);go_simp;obtain⟨s0,s1,s2⟩:=hHeld;obtain⟨ga,hga⟩:=geZ (q1.heap.size);have p0_ga:w.heap.size<ga:=by rw[<-hga];exact s0.lt
   have p1_ga:gp<ga:=by rw[<-hga];exact s1.lt
   have p2_ga:w7.heap.size<=ga:=by rw[<-hga];exact s2.size
   rw[hga];refine hK.out _ _ ?_ (fun hHeld=>?_)
   ·exact⟨s0.beside _,s1.beside _,qan s2 _⟩
   have HPO7:=zq (HPO7.out.under ((Below.refl _ _).alloc (Nat.le_refl _) (.cells #[.slice none 0 0] 35)));have HOC7:=zq (HOC7.out.under ((Below.refl _ _).alloc (Nat.le_refl _) (.cells #[.slice none 0 0] 35)));have HFV7:=zq (HFV7.out.beside (.cells #[.slice none 0 0] 35));have HSA:=zq (HSA.out.under ((Below.refl _ _).alloc (Nat.le_refl _) (.cells #[.slice none 0 0] 35)));refine mr3 (fun W_=>(∃o_:Array Value,Has W_ (ga) 35 o_/\o_.size=1/\noB17 o_=true)) ⟨s0.beside _,s1.beside _,qan s2 _,⟨#[.slice none 0 0],(by rw[<-hga];exact Has.made _ _ _),rfl,rfl⟩⟩ (fun h_=>?_);clear hHeld;have hHeld:=h_;clear h_;clear hK K hga s0 s1 s2
  case' zb3=>
   go_simp;obtain⟨s0,s1,s2⟩:=hHeld;obtain⟨ga,hga⟩:=geZ (w7.heap.size);have p0_ga:w.heap.size<ga:=by rw[<-hga];exact s0.lt
   have p1_ga:gp<ga:=by rw[<-hga];exact s1.lt
   have p2_ga:w7.heap.size<=ga:=by rw[<-hga];exact s2.size
   rw[hga];refine hK.out _ _ ?_ (fun hHeld=>?_)
   ·exact⟨s0.beside _,s1.beside _,qan s2 _⟩
   have HPO7:=zq (HPO7.out.under ((Below.refl _ _).alloc (Nat.le_refl _) (.cells #[.slice none 0 0] 35)));have HOC7:=zq (HOC7.out.under ((Below.refl _ _).alloc (Nat.le_refl _) (.cells #[.slice none 0 0] 35)));have HFV7:=zq (HFV7.out.beside (.cells #[.slice none 0 0] 35));refine mr3 (fun W_=>(∃o_:Array Value,Has W_ (ga) 35 o_/\o_.size=1/\noB17 o_=true)) ⟨s0.beside _,s1.beside _,qan s2 _,⟨#[.slice none 0 0],(by rw[<-hga];exact Has.made _ _ _),rfl,rfl⟩⟩ (fun h_=>?_);clear hHeld;have hHeld:=h_;clear h_;clear hK K hga s0 s1 s2
   try simp only[lyZ]
   refine aoZ 7 (some 52) (fun K hK=>?_);go_simp;obtain⟨s0,s1,s2,s3⟩:=hHeld;refine(qdf t a ⟨le,lr⟩ _ (HT.out _ (HBX.out.1.trans (s2.mono HBX.out.1.size))) HLT.out).mono ?_;rw[HAL.out,HAN.out];rintro e_ q1 ⟨A5,c5,rfl,hs5_,hb_⟩;have HPO7:=zq (HPO7.out.under hb_);have HOC7:=zq (HOC7.out.under hb_);have HFV7:=uH HFV7 hb_;have HSA:=zq (hs5_);go_wp2_with fail;refine hK.out _ _ ?_ (fun hHeld=>?_)
   ·exact⟨s0.u hb_,s1.u hb_,bu s2 hb_,(let ⟨o_,h_,e_⟩:=s3;⟨o_,h_.u hb_,e_⟩)⟩
   clear hK K s0 s1 s2 s3
  all_goals
   try simp only[lyZ]
   refine aoZ 9 none (fun K hK=>?_);rw[if_pos (by rfl)];obtain⟨s0,s1,s2,s3⟩:=hHeld;obtain⟨o_,h_,e_⟩:=s3;refine qf3 35 _ _ rfl (ga) (.slice A5 an c5) (by rfl) (by rfl) 35 o_ h_ e_.1 (by kernel_rfl) rfl ?_;have HPO7:=zq (HPO7.out.kept (qal _ _ #[.slice A5 an c5]) (.inr (HPO7.out.apart h_ (by decide))));have HOC7:=zq (HOC7.out.kept (qal _ _ #[.slice A5 an c5]) (.inr (HOC7.out.apart h_ (by decide))));have HFV7:=zq (qad (g:=ga) HFV7.out (by omega) #[.slice A5 an c5]);have HSA:=zq (HSA.out.rowB17 h_ e_.2 #[.slice A5 an c5]);refine hK.out _ _ ?_ (fun hHeld=>?_)
   ·exact⟨qad s0 (by omega) _,qad s1 (by omega) _,qab s2 (by omega) _,⟨_,qaa h_ _,rfl,rfl⟩⟩
   refine mr4 (fun W_=>(Has W_ (ga) 35 #[.slice A5 an c5])) ⟨qad s0 (by omega) _,qad s1 (by omega) _,qab s2 (by omega) _,⟨_,qaa h_ _,rfl,rfl⟩,qaa h_ _⟩ (fun h_=>?_);clear hHeld;have hHeld:=h_;clear h_;clear hK K h_ e_ s0 s1 s2
   try simp only[Act.put]
   refine dnZ ?_;go_wp2_with fail;go_meet
   exact⟨ga,A5,c5,by omega,rfl,hHeld.2.2.2.2,HSA.out,hHeld.2.1,HPO7.out,HOC7.out,HFV7.out,hHeld.2.2.1⟩
 obtain⟨ga,A5,c5,hga_,rfl,hga2_,hsa_,hpb_,hpo_,hoc_,hfv_,hb_⟩:=hcut;obtain⟨w8,hw8⟩: ∃u,u=wc:=⟨_,rfl⟩
 subst hw8;have HOC9:=zq (hoc_.kept (qal w8 gf #[.func (.func 46) #[] #[.pointer (some ⟨ga,0,none⟩),.pointer (some ⟨gp,0,none⟩)]]) (.inr (hoc_.apart hfv_ (by decide))));have HPO9:=zq (hpo_.kept (qal w8 gf #[.func (.func 46) #[] #[.pointer (some ⟨ga,0,none⟩),.pointer (some ⟨gp,0,none⟩)]]) (.inr (hpo_.apart hfv_ (by decide))));have HPB9:=zq (qad (g:=gf) hpb_ (by omega) #[.func (.func 46) #[] #[.pointer (some ⟨ga,0,none⟩),.pointer (some ⟨gp,0,none⟩)]]);have HFT9:=zq (show FitsR17 (w8.setRow gf #[.func (.func 46) #[] #[.pointer (some ⟨ga,0,none⟩),.pointer (some ⟨gp,0,none⟩)]]) t out2 gf (w.heap.size+1) gp from⟨fun e=>absurd e HON.out,fun _=>⟨ga,A5,an,c5,qad (g:=gf) hga2_ (by omega) _,by rw[HWN.out,HLL.out,HAL.out];exact hsa_.rowB17 hfv_ HFB.out _,HAF.out,qaa hfv_ _⟩⟩);have HBW:=zq (show Below wa.heap.size wa w8/\Below w2.heap.size w2 w8/\u2.heap.size<=w8.heap.size from⟨HBX.out.1.trans (hb_.mono HBX.out.1.size),HBX.out.2.1.trans (hb_.mono HBX.out.2.1.size),Nat.le_trans HBX.out.2.2 hb_.size⟩);have HBU9:=zq (show Below wa.heap.size wa (w8.setRow gf #[.func (.func 46) #[] #[.pointer (some ⟨ga,0,none⟩),.pointer (some ⟨gp,0,none⟩)]])/\Below w2.heap.size w2 (w8.setRow gf #[.func (.func 46) #[] #[.pointer (some ⟨ga,0,none⟩),.pointer (some ⟨gp,0,none⟩)]])/\u2.heap.size<=(w8.setRow gf #[.func (.func 46) #[] #[.pointer (some ⟨ga,0,none⟩),.pointer (some ⟨gp,0,none⟩)]]).heap.size from⟨qab HBW.out.1 (by have:=HB2.out.size;omega) _,qab HBW.out.2.1 (by omega) _,by have h_:=HBW.out.2.2;simpa using h_⟩);have HFV8:=zq hfv_;rw[<-HWN.out]at HPO9;clear hga2_ hsa_ hpb_ hpo_ hoc_ hfv_ hb_ hw1 hw2 u1_ u2_ u3_ HPO7 HPB7 HOC7 HFV7 HBX x1 x2;go_wp2_with (with_reducible refine qap (o:=⟨none,_,_,_,_,_⟩) rfl 84 _ _ rfl (gf) 0 (.func (.func 46) #[] #[.pointer (some ⟨ga,0,none⟩),.pointer (some ⟨gp,0,none⟩)]) rfl rfl 84 #[fv] HFV8.out (Nat.le_of_ble_eq_true rfl) (by kernel_rfl) rfl #[.func (.func 46) #[] #[.pointer (some ⟨ga,0,none⟩),.pointer (some ⟨gp,0,none⟩)]] rfl ?_);go_roundg (k1-1)
 case measure=>have:=HKK.out;omega
 case rel=>exact⟨k2,X2,x2_,out2,_,pn2,px3,HKK.out.1,HKK.out.2.1,rfl,HNC,HNP,HOC9,HPB9,HPO9,HFT9,HBU9⟩
end
section
open Go.RowKit
open Go.Great
attribute [local go_sem] Oper.semAt_some
theorem step_push17 {P:Program}{ops:Array Oper}{o:Oper}{a:Act}{w:World}{K:Act->World->Prop}{Q:Exit->Act->World->Prop}{E:Prop}(hgd:o.guard=none)(s x:Operand)(t:TypeId)
  (ho:o.op= .call {callee:= .builtin .append,args:=#[s,x],argTypes:=#[t,t]})
  (base:Nat) (e:TypeId) (z:Value) (size bytes:Nat) (ht:P.underlying t=some (.slice e)) (hinfo:(P.info? e).map (fun i=>(i.zero,i.size,i.bytes))=some (some z,size,bytes))
  (hzs:z.cells.size=size) (hsz:0<size)
  (A:Option Addr) (n c:Nat) (xs:List Value) (hs:a.eval s= .slice A n c) (hown:Hid (w.ownsRow base e size (.slice A n c) n xs))
  (ad:Addr) (m cc:Nat) (news:List Value) (hx:a.eval x= .slice (some ad) m cc) (hl:Hid (news.length=m*size)) (hnews:Hid (∀j u,news[j]?=some u->w.cell? (ad.add j)=some u)) (h1:Hid (∀u∈news,u.oneCell'=true))
  (hb:Hid (n+m<=maxLen/\(n+m)*bytes<=140737488355328/\base<=w.heap.size))
  (h: ∀A' c' w',Hid (w'.ownsRow base e size (.slice A' (n+m) c') (n+m) (xs++news))->Hid (w.grownBy w' (Value.ownBlock (.slice A n c)))->Hid (Value.ownBlock (.slice A' (n+m) c')=Value.ownBlock (.slice A n c)\/Value.ownBlock (.slice A' (n+m) c')=some w.heap.size)->
   K (a.put o.dst (.slice A' (n+m) c')) w'):if Region.wanted o (yielded ops a.tmps)=true then Oper.wp P o a w K Q else E:=by
 have hw:Region.wanted o (yielded ops a.tmps)=true:=by simp[Region.wanted,hgd]
 rw[if_pos hw];obtain⟨i,hi,hz,hsize,hby⟩:=info_parts hinfo;obtain⟨v',w',hr,h2,h3,_,h5⟩:=run_append_own_at (P:=P) w base t o.type e i z size bytes ht hi hz hsize hby hzs hsz (.slice A n c) n xs hown.out ad m cc news hl.out hnews.out h1.out hb.out.1 hb.out.2.1 hb.out.2.2;obtain⟨A',c',rfl⟩:=qdg h2;unfold Oper.wp execOp;simp only[ho,resolve,invoke,builtin,Sem.run_bind,Sem.run_pure,Result.andThen_ok,List.map_toArray,List.map_cons,List.map_nil,hs,hx,hr];exact h A' c' w' h2 h3 h5
theorem qcj {P:Program}{ops:Array Oper}{o:Oper}{a:Act}{w:World}{K:Act->World->Prop}{Q:Exit->Act->World->Prop}{E:Prop}(hgd:o.guard=none)(s x:Operand)(t:TypeId)
  (ho:o.op= .call {callee:= .builtin .append,args:=#[s,x],argTypes:=#[t,t]})
  (base:Nat) (e:TypeId) (z:Value) (size bytes:Nat) (ht:P.underlying t=some (.slice e)) (hinfo:(P.info? e).map (fun i=>(i.zero,i.size,i.bytes))=some (some z,size,bytes))
  (hzs:z.cells.size=size) (hsz:0<size)
  (A:Option Addr) (n c:Nat) (xs:List Value) (hs:a.eval s= .slice A n c) (hown:Hid (w.ownsRow base e size (.slice A n c) n xs))
  (B:Option Addr) (m cc:Nat) (news:List Value) (hx:a.eval x= .slice B m cc) (hl:Hid (Sl w size B m cc news)) (h1:Hid (∀u∈news,u.oneCell'=true))
  (hb:Hid (n+m<=maxLen/\(n+m)*bytes<=140737488355328/\base<=w.heap.size))
  (h: ∀A' c' w',Hid (w'.ownsRow base e size (.slice A' (n+m) c') (n+m) (xs++news))->Hid (w.grownBy w' (Value.ownBlock (.slice A n c)))->Hid (Value.ownBlock (.slice A' (n+m) c')=Value.ownBlock (.slice A n c)\/Value.ownBlock (.slice A' (n+m) c')=some w.heap.size)->
   K (a.put o.dst (.slice A' (n+m) c')) w'):if Region.wanted o (yielded ops a.tmps)=true then Oper.wp P o a w K Q else E:=by
 cases B with
 |none=>
  obtain⟨rfl,rfl⟩:=hl.out.2.1 rfl;have e0:news=[]:=List.eq_nil_of_length_eq_zero (by simpa using hl.out.1);subst e0;have hw:Region.wanted o (yielded ops a.tmps)=true:=by simp[Region.wanted,hgd]
  rw[if_pos hw];obtain⟨i,hi,_⟩:=info_parts hinfo;have hr:=run_append_owned_none (P:=P) (w:=w) base t o.type e i size ht hi (.slice A n c) n xs hown.out;unfold Oper.wp execOp;simp only[ho,resolve,invoke,builtin,Sem.run_bind,Sem.run_pure,Result.andThen_ok,List.map_toArray,List.map_cons,List.map_nil,hs,hx,hr];exact h A c w (show Hid _ by simpa using hown) (qa3 _ _) (show Hid _ from .inl rfl)
 |some ad=>
  exact step_push17 hgd s x t ho base e z size bytes ht hinfo hzs hsz A n c xs hs hown ad m cc news hx hl.out.1 (hl.out.2.2 ad rfl) h1 hb h
theorem beh_sub17 {path:List St3}{s:St3}: ∀y∈behS path s,y∈path:=by
 intro y hy;unfold behS at hy;split at hy
 ·unfold qeA at hy
  exact List.dropWhile_subset _ (List.mem_of_mem_drop hy)
 ·exact hy
theorem beh_len17 (path:List St3)(s:St3):(behS path s).length<=path.length:=by
 unfold behS;split
 ·unfold qeA
  rw[List.length_drop];have h:=(List.dropWhile_sublist (fun x=>!eqS x s) (l:=path)).length_le;omega
 ·exact Nat.le_refl _
theorem auth_edges17 {t:Tp3}{s:St3}{g:List St3}{c:List Lc3}(hc:qaE t=0)(hg: ∀y∈g,edgeB t y.edge=true)(h: ∀x∈c,(qaS t x.route).isSome=true): ∀y∈g++authP t s c,edgeB t y.edge=true:=by
 intro y hy
 rcases List.mem_append.1 hy with hy|hy
 ·exact hg y hy
 ·obtain⟨k,hk,hy⟩:=List.mem_flatMap.1 hy
  exact qgb hc h y (List.mem_flatMap.2 ⟨k,hk,beh_sub17 y hy⟩)
theorem qf7 {t:Tp3}(hl:qaH t=true)(s:St3)(c:List Lc3):(authP t s c).length<=100*c.length:=by
 induction c with
 |nil=>simp[authP]
 |cons k r ih=>
  have h1:=qbB hl k.route;have h2:=beh_len17 (pathR t k.route) s;unfold authP at ih⊢;rw[List.flatMap_cons,List.length_append,List.length_cons];omega
theorem take_snoc17 {c:List Lc3}{i:Nat}{k:Lc3}(h:c[i]?=some k):c.take (i+1)=c.take i++[k]:=by
 rw[List.take_add_one,h]
 rfl
theorem gap_snoc17 {t:Tp3}(c:List Lc3)(k:Lc3):gapC t (c++[k])=gapR t k.route:=by
 unfold gapC;rw[List.getLast?_append]
 rfl
theorem qgm {g:Int}{l:List Sc3}(h:l≠[]):(lessB g l).length=l.length:=by
 unfold lessB;rw[List.length_append,List.length_dropLast,List.length_singleton];have:=List.length_pos_iff.2 h;omega
theorem less_flat17 {g:Int}{l:List Sc3}{s:Sc3}{n:Nat}(hn:l.length=n+1)(h:l[n]?=some s):(lessB g l).flatMap scC17=(l.flatMap scC17).set (n*2) (.int .i64 (s.to_-g)):=by
 have h1:l=l.take n++[s]:=by
  have h2:l.take (n+1)=l.take n++[s]:=by rw[List.take_add_one,h];rfl
  rw[<-h2,List.take_of_length_le (by omega)]
 have h3:l.dropLast=l.take n:=by rw[List.dropLast_eq_take,hn];rfl
 have h4:l.getLastD zeroS=s:=by rw[h1];simp
 have h5:((l.take n).flatMap scC17).length=n*2:=by rw[qbx (f:=scC17) (k:=2) (fun _=>rfl),List.length_take,hn];congr 1;omega
 unfold lessB;rw[h3,h4]
 conv=>rhs;rw[h1]
 rw[List.flatMap_append,List.flatMap_append,List.set_append_right _ _ (by omega),h5,Nat.sub_self]
 rfl
theorem less_top17 {g M:Int}{l:List Sc3}(hl:l≠[])(hg:0<=g)(h: ∀s∈l,s.to_<=M): ∀s∈lessB g l,s.to_<=M:=by
 intro s hs;unfold lessB at hs
 rcases List.mem_append.1 hs with hs|hs
 ·exact h s (List.dropLast_subset _ hs)
 ·rw[List.mem_singleton]at hs
  subst hs;have h1:=h (l.getLastD zeroS) (by
   rw[List.getLastD_eq_getLast?,List.getLast?_eq_some_getLast hl];exact List.getLast_mem hl)
  show(l.getLastD zeroS).to_-g<=M
  omega
theorem route_gap17 {t:Tp3}(hc:qaE t=0){id:Int}(h:(qaS t id).isSome=true):0<=gapR t id/\gapR t id<=100000000:=by
 obtain⟨z,z1,z2,z3⟩:=qcG hc h;have z4:=qd6 z3;have z5:=qdV z4.2.2.2.2.2.1;have z6:=(qck (qaD hc).1 z5.2.2.1).2;have z7:gapR t id=z.gap:=by unfold gapR;rw[z1]
 have z8:lenN t z.path=sumT t z.path:=by unfold lenN;rw[if_pos z4.2.2.2.2.2.1]
 have z9:=z4.2.2.1;rw[z7];omega
theorem timerR_of17 {t:Tp3}{id:Int}:qfS t id=(qbb t id).timer:=by
 unfold qfS qbb
 cases qaS t id<;>rfl
theorem gapR_of17 {t:Tp3}{id:Int}:gapR t id=(qbb t id).gap:=by
 unfold gapR qbb
 cases qaS t id<;>rfl
theorem opauth_any (t:Tp3)(a:TpA)(l c:List Lc3)(train ref:Int)(rev:Bool)(n:Int)(x p:Ps3)(A:Option Addr)(cn cc:Nat)(w:World)(ht:TopR w t a)(hl:qaH t=true)(hcj:t.joints.length<=a.cj)(hs:SlO lcC 3 w A cn cc c)(hcp:ChainP t l train (stepP x) c)(hc0:c≠[])(hc8:c.length<=8)(hloc:locE t ref rev 0=(p,0))(hw:walkE t p n=(x,0)):
  Calls Tryz.prog 57 #[.agg (tpC t a),.slice A cn cc,.int .i64 ref,.bool rev,.int .i64 n] w fun r w'=> ∃b,r= .returned (.agg (maC ⟨ref,rev,fullB t (goneL t p n) (stepP x) c,lessB (gapC t c) (rawB t (intoP t p) (goneL t p n) (stepP x) c),gapC t c⟩ b))/\MaR w' ⟨ref,rev,fullB t (goneL t p n) (stepP x) c,lessB (gapC t c) (rawB t (intoP t p) (goneL t p n) (stepP x) c),gapC t c⟩ b/\Below w.heap.size w w'/\OwR stC 2 30 w.heap.size w' b.ap (fullB t (goneL t p n) (stepP x) c).length b.cp (fullB t (goneL t p n) (stepP x) c)/\OwR scC17 2 66 w.heap.size w' b.aq (lessB (gapC t c) (rawB t (intoP t p) (goneL t p n) (stepP x) c)).length b.cs (lessB (gapC t c) (rawB t (intoP t p) (goneL t p n) (stepP x) c)):=by
 have HGK:=zq (gone_ok hw);have HCK:=zq HGK.out.1;have HOK:=zq (qaD HGK.out.1).1;have HIN:=zq (qb3 HOK.out (qaO.1 HGK.out.2.1).2);have HEN:=zq (qc9 HGK.out.2.1);have HL0:=zq (qaT HOK.out (s:=stepP p) (qbh.1 (qaO.1 HGK.out.2.1).2).1);obtain⟨hauth1,hauth2⟩:=auth_raw17 hcp (intoP t p) (goneL t p n) hc0;rw[<-hauth1,<-hauth2];have HSOM:=zq (qeD hcp);have HWK:=zq (fun W (hW:Below w.heap.size w W)=>qeO t a p x n W (ht.under hW) hl hcj hw);have HRC:=zq (fun W (hW:Below w.heap.size w W) id=>qgt t a id W (ht.under hW) hl);have HTO:=zq (fun W (hW:Below w.heap.size w W) path A n c hp hn hed=>qfy t a path A n c W (ht.under hW) hp hn HOK.out hed);have HLO:=zq (fun W (hW:Below w.heap.size w W)=>qci t a ref rev 0 W (ht.under hW) hl hcj);have HEO:=zq (fun W (hW:Below w.heap.size w W)=>qdc t a p W (ht.under hW) hl hcj);rw[HEN.out]at HEO;rw[hloc]at HLO;obtain⟨I,hI⟩:=geZ (intoP t p);obtain⟨g,hg⟩:=geZ (goneL t p n);have HGP:=zq (show GoneP t p x n g/\g.length<=41 from by rw[<-hg];exact HGK.out.2.2.2.2);rw[hg]at HWK;rw[hI]at HIN HEO;rw[hI,hg];have HIB:=zq (show 0<=I/\I<=1000000 from by have h1_:=HIN.out;have h2_:=HL0.out;omega);obtain⟨gn,hgn⟩: ∃m,g.length=m:=⟨_,rfl⟩
 rw[hgn]at HWK;have HGN:=zq hgn;have HFR:=zq (show 1<=gn/\gn<=41/\g[gn-1]?=some (stepP x)from by
  obtain⟨pre,h1_,_⟩:=HGP.out.1.split;have h2_:=HGP.out.2;rw[h1_,List.length_append,List.length_singleton]at hgn;refine⟨by omega,by have:=HGN.out;omega,?_⟩;rw[h1_,show gn-1=pre.length by omega];simp)
 clear hcp hloc hw hauth1 hauth2 hI hg hgn HEN HL0 HIN;obtain⟨pe,pa,pr⟩:=p;obtain⟨s,hs_⟩:=geZ (stepP x);rw[hs_]at HFR⊢;clear hs_;obtain⟨PF,hPF⟩: ∃P,g++authP t s c=P:=⟨_,rfl⟩
 obtain⟨GF,hGF⟩: ∃G,gapC t c=G:=⟨_,rfl⟩
 obtain⟨LF,hLF⟩: ∃L,lessB GF (qb6 t I s g c)=L:=⟨_,rfl⟩
 rw[hPF,hGF,hLF];have HPF:=zq hPF;have HGF:=zq hGF;have HLF:=zq hLF;clear hPF hGF hLF;unfold psA at HWK HLO HEO;dsimp only at HWK HLO HEO;obtain⟨cn_,hcn_⟩: ∃m,c.length=m:=⟨_,rfl⟩
 obtain rfl:cn=cn_:=hs.1.symm.trans hcn_;have HCN:=zq (show c.length=cn/\1<=cn/\cn<=8 from⟨hcn_,by rw[<-hcn_];exact List.length_pos_iff.2 hc0,by omega⟩);have HC0:=zq hc0;clear hcn_ hc0 hc8;obtain⟨wa,hwa,hbwa,HWA,HBWA,h0,h1⟩:=bx2Z w 27 (tpC t a) 38 #[.int .i64 0,.bool false,.slice none 0 0,.slice none 0 0,.int .i64 0];have HT:=zq (fun W (hW:Below wa.heap.size wa W)=>(ht.under hbwa).under hW);have HLT:=zq hl;have H0:=zH h0;have H1:=zH h1;have HS:=zq (fun W (hW:Below wa.heap.size wa W)=>(hs.under hbwa).under hW);have HBZ:=zq (show w.heap.size<=wa.heap.size/\w.heap.size+1<wa.heap.size from⟨hbwa.size,h1.lt⟩);clear hwa hbwa h0 h1 ht hl hcj hs;go_enter Tryz.func57,Tryz.ntmps57;go_upto_region 1 with fail;rw[HWA.out];clear HWA;go_wp2_with (with_reducible refine ldZ 20 (H0.out wa (Below.refl _ _)) ?_);refine(HLO.out wa HBWA.out).mono ?_;rintro e_ w1 ⟨rfl,hb1⟩;have HB1:=zq hb1;clear hb1;go_upto_region 2 with fail;obtain⟨w2,hw2⟩:=geZ (w1.alloc (.cells #[.int .i64 pe,.int .i64 pa,.bool pr] 51));rw[hw2];have HB2:=zq (show Below wa.heap.size wa w2 from by rw[<-hw2];exact HB1.out.alloc HB1.out.size _);have hH:Has w2 w1.heap.size 51 #[.int .i64 pe,.int .i64 pa,.bool pr]:=by rw[<-hw2];exact Has.made _ _ _
 obtain⟨gP,hgP⟩: ∃g,w1.heap.size=g:=⟨_,rfl⟩
 have HGP2:=zq (show wa.heap.size<=gP from by rw[<-hgP];exact HB1.out.size);rw[hgP]at hH;simp only[hgP];have HHP:=zH hH;clear hw2 hH hgP HB1;go_wp2_with (first|(with_reducible refine ldZ 28 (H0.out w2 HB2.out) ?_)|(with_reducible refine ldZ 29 (HHP.out w2 (Below.refl _ _)) ?_));refine(HWK.out w2 (HBWA.out.trans (HB2.out.mono HBWA.out.size))).mono ?_;rintro e_ w3 ⟨X0,x0,rfl,ho3,hb3⟩;have HB3:=zq (show Below wa.heap.size wa w3/\Below w2.heap.size w2 w3 from⟨bu HB2.out hb3,hb3⟩);have HO3:=zq (ho3.to_base HB2.out.size);clear ho3 hb3;go_upto_region 3 with fail;obtain⟨w4,hw4⟩:=geZ (w3.alloc (.cells #[.int .i64 ref,.bool rev,.slice X0 gn x0,.slice none 0 0,.int .i64 0] 38))
 try rw[hw4]
 have hH:Has w4 w3.heap.size 38 #[.int .i64 ref,.bool rev,.slice X0 gn x0,.slice none 0 0,.int .i64 0]:=by rw[<-hw4];exact Has.made _ _ _
 have hb4:Below w3.heap.size w3 w4:=by rw[<-hw4];exact bA
 have hsz4:w4.heap.size=w3.heap.size+1:=by rw[<-hw4];simp
 obtain⟨gm,hgm⟩: ∃g,w3.heap.size=g:=⟨_,rfl⟩
 rw[hgm]at hH hsz4;simp only[hgm];have HM4:=zq hH;have HGM:=zq hgm;have HB4:=zq (show Below wa.heap.size wa w4/\Below w3.heap.size w3 w4 from⟨HB3.out.1.trans (hb4.mono HB3.out.1.size),hb4⟩);have HO4:=zq (HO3.out.under hb4);have HSZ4:=zq hsz4;obtain⟨gx,hgx,_,_⟩:=HO3.out.some (by have:=HFR.out;omega);subst hgx;obtain⟨k0_,k1_⟩:=qcm HO4.out HFR.out.2.2;obtain⟨xe,xr⟩:=s;dsimp only at k0_ k1_;have m2:w4.cell? ⟨gm,2,none⟩=some (.slice (some ⟨gx,0,none⟩) gn x0):=HM4.out.cell 2;have u0:=HFR.out.1;have u0b:=HFR.out.2.1;have u1:(0:Int)<=(gn:Int)-1:=by omega
 have u2:(gn:Int)-1<gn:=by omega
 have u3:(1:Int)<=(gn:Int):=by omega
 have u4:((gn:Int)-1).toNat=gn-1:=by omega
 clear hw4 hH hb4 hgm hsz4 HO3;go_upto_region 4 with fail;obtain⟨w5,hw5⟩: ∃u,w4.alloc (.cells #[.int .i64 xe,.bool xr] 30)=u:=⟨_,rfl⟩
 rw[hw5];have hH5:Has w5 w4.heap.size 30 #[.int .i64 xe,.bool xr]:=by rw[<-hw5];exact Has.made _ _ _
 have hb5:Below w4.heap.size w4 w5:=by rw[<-hw5];exact bA
 obtain⟨gfr,hgf⟩: ∃g,w4.heap.size=g:=⟨_,rfl⟩
 rw[hgf]at hH5;simp only[hgf];have HF5:=zq hH5;have HM5:=uH HM4 hb5;have HO5:=zq (HO4.out.under hb5);have HNE:=zq (show(Value.slice (some ⟨gx,0,none⟩) gn x0).ownBlock≠some gfr from by rw[<-hgf];exact HO4.out.ne (Nat.le_refl _));have HP5:=zq (HHP.out w5 ((HB3.out.2.trans (HB4.out.2.mono HB3.out.2.size)).trans (hb5.mono (HB3.out.2.trans (HB4.out.2.mono HB3.out.2.size)).size)));have HB5:=zq (show Below wa.heap.size wa w5/\Below w3.heap.size w3 w5 from⟨HB4.out.1.trans (hb5.mono HB4.out.1.size),HB4.out.2.trans (hb5.mono HB4.out.2.size)⟩);have HGG:=zq (show gfr=gm+1/\gm+2=w5.heap.size/\wa.heap.size<=gP/\gP<gm from⟨by rw[<-hgf];exact HSZ4.out,by rw[<-hw5];have h1_:=HSZ4.out;simp;omega,HGP2.out,by rw[<-HGM.out];exact(HHP.out w3 HB3.out.2).lt⟩);clear hw5 hH5 hb5 hgf HM4 HO4 HB4 HSZ4 HGM m2 u0 u0b u1 u2 u3 u4 k0_ k1_;go_wp2;go_loopg [43] cn (fun kk v43 wl=> ∃(i:Nat) (PX:Option Addr) (pn px:Nat) (SX:Option Addr) (sx:Nat) (G:Int),i<=cn/\cn-i<=kk/\v43= .int .i64 i/\Hid (G=gapC t (c.take i))/\Hid (Has wl gm 38 #[.int .i64 ref,.bool rev,.slice PX pn px,.slice SX i sx,.int .i64 G])/\Hid (Has wl gfr 30 #[.int .i64 xe,.bool xr])/\Hid ((Value.slice PX pn px).ownBlock≠some gfr)/\Hid (OwR stC 2 30 wa.heap.size wl PX pn px (g++authP t ⟨xe,xr⟩ (c.take i)))/\Hid (OwR scC17 2 66 wa.heap.size wl SX i sx (qb6 t I ⟨xe,xr⟩ g (c.take i)))/\Hid (∀y∈qb6 t I ⟨xe,xr⟩ g (c.take i),-1000000<=y.to_/\y.to_<=1000000000)/\Hid (Has wl gP 51 #[.int .i64 pe,.int .i64 pa,.bool pr])/\Hid (Below wa.heap.size wa wl))
 case atStart=>exact⟨0,_,gn,x0,none,0,0,by omega,by omega,rfl,zq rfl,HM5,HF5,HNE,zq (by show OwR _ _ _ _ _ _ _ _ (g++[]);rw[List.append_nil];exact HO5.out),zq (OwR.nil _ _ _ _ _),zq (fun y hy=>by cases hy),HP5,zq HB5.out.1⟩
 clear HM5 HF5 HNE HO5 HB5 HP5;obtain⟨i,PX,pn,px,SX,sx,G,hi,hik,rfl,HG,HM,HF,HNE,HPO,HSO,HTP,HP,HB⟩:=hrel;obtain⟨k1,hk1⟩: ∃k1,k1=gk:=⟨_,rfl⟩
 subst hk1;obtain⟨wv,hwv⟩: ∃wv,wv=wr:=⟨_,rfl⟩
 subst hwv;by_cases hlt:i<cn;rotate_left
 ·obtain rfl:i=cn:=by omega
  have x1: ¬(i:Int)<i:=by omega
  have htk:c.take i=c:=List.take_of_length_le (by rw[HCN.out.1];exact Nat.le_refl _);rw[htk]at HG HPO HSO HTP;obtain⟨k,hk⟩: ∃k,i=k+1:=⟨i-1,by have:=HCN.out;omega⟩
  subst hk;clear hik hi hlt htk;obtain⟨L,hL⟩:=geZ (qb6 t I ⟨xe,xr⟩ g c);rw[hL]at HSO HTP HLF;rw[HPF.out]at HPO;obtain rfl:G=GF:=HG.out.trans HGF.out;have hG2:=HGF.out;have HLL:=zq HSO.out.2;have HGB:=zq (show 0<=G/\G<=100000000 from by rw[<-hG2];unfold gapC;rw[List.getLast?_eq_some_getLast HC0.out];exact route_gap17 HCK.out (HSOM.out _ (List.getLast_mem _)));clear hL hG2;obtain⟨gs,hgs,hgl,_⟩:=HSO.out.some (by omega);subst hgs;obtain⟨z,hz⟩:=glZ L (k) (by rw[HLL.out];omega);have d0:=HSO.out.sl.at_cell (fun _=>rfl) (by decide) hz (i:=0) rfl;simp only[Nat.zero_add,Nat.add_zero]at d0;have f0:=HSO.out.thaw (k*2);dsimp only at f0;have hfl:=less_flat17 (g:=G) HLL.out hz;rw[HLF.out]at hfl;have HFL:=zq hfl;have HTZ:=zq (HTP.out z (List.mem_of_getElem? hz));have HTL:=zq (less_top17 (M:=9223372036854775807) (g:=G) (l:=L) (fun e=>by have h_:=HLL.out;rw[e]at h_;simp at h_) HGB.out.1 (fun y hy=>by have:=HTP.out y hy;omega));rw[HLF.out]at HTL;have HLN:=zq (show LF.length=k+1 from by rw[<-HLF.out,qgm (fun e=>by have h_:=HLL.out;rw[e]at h_;simp at h_)];exact HLL.out);obtain⟨zt,zm⟩:=z;dsimp only at d0 HFL HTZ;skip;have m3:wv.cell? ⟨gm,3,none⟩=some (.slice (some ⟨gs,0,none⟩) (k+1) sx):=HM.out.cell 3;have m4:wv.cell? ⟨gm,4,none⟩=some (.int .i64 G):=HM.out.cell 4;obtain⟨D,hD⟩:=geZ (zt-G);rw[hD]at HFL;have hw2:IntKind.i64.wrap (zt-G)=D:=by rw[IntKind.wrap_i64];have h1_:=HTZ.out;have h2_:=HGB.out;omega
  have hw1:IntKind.i64.wrap (((k+1:Nat):Int)-1)=(k:Int):=by rw[IntKind.wrap_i64];have h1_:=HCN.out;omega
  have hk8:k<8:=by have:=HCN.out;omega
  have v1:(0:Int)<=(k:Int):=by omega
  have v2:(k:Int)<((k+1:Nat):Int):=by omega
  have v3:(k:Int).toNat=k:=by omega
  clear hD hz hfl;go_upto_region 12 with fail;go_region
  obtain⟨w12,hw12⟩: ∃u,(wv.setCell ⟨gs,k*2,none⟩ (.int .i64 D)).drew=u:=⟨_,rfl⟩
  rw[hw12];have hm12:Has w12 gm 38 #[.int .i64 ref,.bool rev,.slice PX pn px,.slice (some ⟨gs,0,none⟩) (k+1) sx,.int .i64 G]:=by rw[<-hw12];exact(HM.out.apart (p:=⟨gs,k*2,none⟩) (fun e=>HSO.out.apart HM.out (by decide) (by show some gs=some gm;rw[show gm=gs from e])) _).draw
  have HPO12:=zq (show OwR stC 2 30 wa.heap.size w12 PX pn px PF from by rw[<-hw12];exact(HPO.out.kept (qbW (g:=gs) (p:=⟨gs,k*2,none⟩) (qa3 _ _) rfl _) (OwR.two HPO.out HSO.out (by decide))).draw1);have HSO12:=zq (show OwR scC17 2 66 wa.heap.size w12 (some ⟨gs,0,none⟩) (k+1) sx LF from by rw[<-hw12];exact(HSO.out.set (l':=LF) HLN.out HFL.out).draw1);have HB12:=zq (show Below wa.heap.size wa w12 from by rw[<-hw12];exact qaf (HB.out.setCell (p:=⟨gs,k*2,none⟩) hgl _));have HM12:=zq hm12;have HZ:=zq (H1.out w12 HB12.out);clear hw12 hm12 d0 f0 m3 m4 hw1 hw2 v1 v2 v3 hk8 HM HPO HSO HB hgl;have HR:=zq (qaa HZ.out #[.int .i64 ref,.bool rev,.slice PX pn px,.slice (some ⟨gs,0,none⟩) (k+1) sx,.int .i64 G]);have HBF:=zq (qab (g:=w.heap.size+1) (HBWA.out.trans (HB12.out.mono HBWA.out.size)) (by omega) #[.int .i64 ref,.bool rev,.slice PX pn px,.slice (some ⟨gs,0,none⟩) (k+1) sx,.int .i64 G]);have HPOF:=zq (HPO12.out.kept (qal w12 (w.heap.size+1) #[.int .i64 ref,.bool rev,.slice PX pn px,.slice (some ⟨gs,0,none⟩) (k+1) sx,.int .i64 G]) (.inr (HPO12.out.apart HZ.out (by decide))));have HSOF:=zq (HSO12.out.kept (qal w12 (w.heap.size+1) #[.int .i64 ref,.bool rev,.slice PX pn px,.slice (some ⟨gs,0,none⟩) (k+1) sx,.int .i64 G]) (.inr (HSO12.out.apart HZ.out (by decide))));go_wp2_with (first|(with_reducible refine ldZ 96 HM12.out ?_)|(with_reducible refine stZ #[.int .i64 ref,.bool rev,.slice PX pn px,.slice (some ⟨gs,0,none⟩) (k+1) sx,.int .i64 G] HZ.out ?_));refine roZ HR.out ?_;have hpl_:PF.length=pn:=HPOF.out.2;have hsl_:LF.length=k+1:=HSOF.out.2;refine⟨⟨PX,px,some ⟨gs,0,none⟩,sx⟩,by unfold maC;dsimp only;rw[hpl_,hsl_],⟨?_,?_,?_,?_,HTL.out⟩,HBF.out,?_,?_⟩
  ·show SlO stC 2 _ PX PF.length px PF;rw[hpl_];exact HPOF.out.sl
  ·show SlO scC17 2 _ (some ⟨gs,0,none⟩) LF.length sx LF;rw[hsl_];exact HSOF.out.sl
  ·show PF.length<=px;rw[hpl_];exact HPOF.out.cap
  ·show LF.length<=sx;rw[hsl_];exact HSOF.out.cap
  ·show OwR stC 2 30 w.heap.size _ PX PF.length px PF;rw[hpl_];exact HPOF.out.to_base HBWA.out.size
  ·show OwR scC17 2 66 w.heap.size _ (some ⟨gs,0,none⟩) LF.length sx LF;rw[hsl_];exact HSOF.out.to_base HBWA.out.size
 obtain⟨y,hy⟩:=glZ c (i) (by rw[HCN.out.1];exact hlt);obtain⟨bk,off,rfl,d0,d1,d2⟩:=(HS.out wv HB.out).lock hy;have HTK:=zq (take_snoc17 hy);have HYS:=zq (HSOM.out y (List.mem_of_getElem? hy));have HAS:=zq (auth_snoc17 (t:=t) (b0:=I) (s:=⟨xe,xr⟩) (k:=y) (c:=c.take i) (g:=g));rw[<-HTK.out]at HAS;have HGS:=zq (show gapC t (c.take (i+1))=gapR t y.route from by rw[HTK.out];exact gap_snoc17 _ _);have x1:(i:Int)<cn:=by omega
 have x2:(0:Int)<=i:=by omega
 have HIN:=zq (show i<cn/\cn-i<=k1 from⟨hlt,hik⟩);clear hy hlt hik hi;have HEG:=zq (auth_edges17 (s:=⟨xe,xr⟩) HCK.out HGP.out.1.edges (c:=c.take (i+1)) (fun z hz=>HSOM.out z (List.mem_of_mem_take hz)));have HAF:=zq (qf7 HLT.out ⟨xe,xr⟩ (c.take (i+1)));obtain⟨kr,kt,kn⟩:=y;dsimp only at d0 d1 d2 HYS HAS HGS;obtain⟨R_,hR_⟩: ∃r,qbb t kr=r:=⟨_,rfl⟩
 obtain⟨ri,rpath,rg,rt⟩:=R_;have HRR:=zq hR_;clear hR_;obtain⟨is_,his_⟩: ∃b,(qaS t kr).isSome=b:=⟨_,rfl⟩
 have HIS:=zq his_;clear his_;obtain⟨rn,hrn_⟩: ∃n,rpath.length=n:=⟨_,rfl⟩
 have HPN:=zq hrn_;clear hrn_;have HPE:=zq (show pathR t kr=rpath from by rw[pathR_of,HRR.out]);have HTE:=zq (show qfS t kr=rt from by rw[timerR_of17,HRR.out]);have HGE:=zq (show gapR t kr=rg from by rw[gapR_of17,HRR.out]);rw[HPE.out,HTE.out]at HAS;rw[HGE.out]at HGS;have HPF:=zq (show pn<=900 from by have h1_:=HPO.out.2;rw[List.length_append]at h1_;have h2_:=HGP.out.2;have h3_:=qf7 HLT.out ⟨xe,xr⟩ (c.take i);have h4_:(c.take i).length<=8:=(by have h5_:=HCN.out;rw[List.length_take];omega);omega);obtain⟨bp,hbp⟩: ∃p,behS rpath ⟨xe,xr⟩=p:=⟨_,rfl⟩
 rw[hbp]at HAS;have HBP:=zq hbp;have HBL:=zq (show bp.length<=100 from by have h1_:=beh_len17 rpath ⟨xe,xr⟩;rw[hbp]at h1_;have h2_:=qbB HLT.out kr;rw[HPE.out]at h2_;omega);clear hbp;go_upto_region 7 with fail;obtain⟨w6,hw6⟩: ∃u,wv.alloc (.cells #[.int .i64 kr,.int .i64 kt,.int .i64 kn] 73)=u:=⟨_,rfl⟩
 rw[hw6];have hb6:Below wv.heap.size wv w6:=by rw[<-hw6];exact bA
 have hH6:Has w6 wv.heap.size 73 #[.int .i64 kr,.int .i64 kt,.int .i64 kn]:=by rw[<-hw6];exact Has.made _ _ _
 obtain⟨gk_,hgk_⟩: ∃g,wv.heap.size=g:=⟨_,rfl⟩
 rw[hgk_]at hH6;simp only[hgk_];have e0:w6.cell? ⟨gk_,0,none⟩=some (.int .i64 kr):=hH6.cell 0;have HB6:=zq (show Below wv.heap.size wv w6 from hb6);clear hw6 hb6 hH6 hgk_ d0 d1 d2 x1 x2;go_wp2_with (with_reducible refine ldZ 48 (H0.out w6 (HB.out.trans (HB6.out.mono HB.out.size))) ?_);refine(HRC.out w6 (HBWA.out.trans ((HB.out.trans (HB6.out.mono HB.out.size)).mono HBWA.out.size)) kr).mono ?_;rw[HRR.out,HIS.out];dsimp only;rw[HPN.out];rintro e_ w7 ⟨RA,rc,hsr,-,hrc,rfl,hb7⟩;unfold rtA;dsimp only;go_upto_region 8 with fail;obtain⟨w8,hw8⟩: ∃u,w7.alloc (.cells #[.int .i64 ri,.slice RA rn rc,.int .i64 rg,.int .i64 rt] 75)=u:=⟨_,rfl⟩
 have hH8:Has w8 w7.heap.size 75 #[.int .i64 ri,.slice RA rn rc,.int .i64 rg,.int .i64 rt]:=by rw[<-hw8];exact Has.made _ _ _
 have hb8:Below w7.heap.size w7 w8:=by rw[<-hw8];exact bA
 try rw[hw8]
 obtain⟨gr,hgr⟩: ∃g,w7.heap.size=g:=⟨_,rfl⟩
 have HBA:=zq (show Below wv.heap.size wv w8 from(bu HB6.out hb7).trans (hb8.mono (bu HB6.out hb7).size));have hq5:gfr<gr:=by have h1_:=(HF.out.under (bu HB6.out hb7) HF.out.lt).lt;omega
 rw[hgr]at hH8;simp only[hgr];have HSR:=zq (hsr.under hb8);have HRC_:=zq (show rn<=rc from hrc);have HR8:=zq hH8;have HM8:=zq (HM.out.under HBA.out HM.out.lt);have HF8:=zq (HF.out.under HBA.out HF.out.lt);have HP8:=zq (HP.out.under HBA.out HP.out.lt);have HPO8:=zq (HPO.out.under HBA.out);have HSO8:=zq (HSO.out.under HBA.out);have HB8:=zq (HB.out.trans (HBA.out.mono HB.out.size));have hq1:w.heap.size+1<wa.heap.size:=HBZ.out.2;have hq2:wa.heap.size<=gP:=HGG.out.2.2.1;have hq3:gP<gm:=HGG.out.2.2.2;have hq4:gm<gfr:=by have:=HGG.out.1;omega
 clear hw8 hH8 hb8 hgr hsr hrc hb7 e0 HB6 HBA HM HF HP HPO HSO HB;obtain⟨P0,hP0⟩: ∃l,g++authP t ⟨xe,xr⟩ (c.take i)=l:=⟨_,rfl⟩
 obtain⟨L0,hL0⟩: ∃l,qb6 t I ⟨xe,xr⟩ g (c.take i)=l:=⟨_,rfl⟩
 rw[hP0]at HPO8;rw[hL0]at HSO8 HTP HAS;have HP0:=zq hP0;obtain⟨bn,hbn⟩: ∃m,bp.length=m:=⟨_,rfl⟩
 rw[hbn]at HBL;have HBN:=zq hbn;clear hP0 hL0 hbn;go_cut [43] (fun s43 wx=>s43= .int .i64 i/\ ∃PX3 px3,Has wx gm 38 #[.int .i64 ref,.bool rev,.slice PX3 (pn+bn) px3,.slice SX i sx,.int .i64 G]/\Has wx gfr 30 #[.int .i64 xe,.bool xr]/\(Value.slice PX3 (pn+bn) px3).ownBlock≠some gfr/\OwR stC 2 30 wa.heap.size wx PX3 (pn+bn) px3 (P0++bp)/\OwR scC17 2 66 wa.heap.size wx SX i sx L0/\Has wx gr 75 #[.int .i64 ri,.slice RA rn rc,.int .i64 rg,.int .i64 rt]/\Has wx gP 51 #[.int .i64 pe,.int .i64 pa,.bool pr]/\Below wa.heap.size wa wx)
 case first=>
  refine wp_region_held_drew (S:=(fun W_=>(Has W_ (gr) 75 #[.int .i64 ri,.slice RA rn rc,.int .i64 rg,.int .i64 rt])/\(Has W_ (gfr) 30 #[.int .i64 xe,.bool xr])/\(Has W_ (gP) 51 #[.int .i64 pe,.int .i64 pa,.bool pr])/\(Below wa.heap.size wa W_))) (by kernel_rfl) ?_ (fun hHeld=>?_)
  ·exact⟨HR8.out.draw,HF8.out.draw,HP8.out.draw,qaf HB8.out⟩
  have HM8:=zq HM8.out.draw;have HPO8:=zq HPO8.out.draw1;have HSO8:=zq HSO8.out.draw1;have HSR:=zq HSR.out.draw1;refine tkZ 0 54 (h:=?_);simp only[lyZ];refine tkZ 2 56 (h:=?_);simp only[lyZ];refine tqZ 3 57 (fun w_ ⟨s0,s1,s2,s3⟩=>(show w_.cell? ⟨gr,1,none⟩=some (.slice RA rn rc:Value)from s0.cell 1)) (h:=?_);simp only[lyZ];refine tlZ 4 58 gfr #[.int .i64 xe,.bool xr] (fun _ ⟨_,h_,_,_⟩=>h_) (h:=?_);simp only[lyZ];refine rdZ [1,5] (acZ (some 55) (fun K hK=>?za4) (acZ (some 59) (fun K hK=>?zb4) AllReadyH.nil))
  case' za4=>
   skip;obtain⟨s0,s1,s2,s3⟩:=hHeld;have q_:=HM8.out.cell 2;go_simp;clear q_;refine hK.out _ _ ?_ (fun hHeld=>?_)
   ·exact⟨s0,s1,s2,s3⟩
   clear hK K s0 s1 s2 s3
   try simp only[lyZ]
   refine aoZ 5 (some 59) (fun K hK=>?_);go_simp;obtain⟨s0,s1,s2,s3⟩:=hHeld;refine(qeM rpath ⟨xe,xr⟩ RA rn rc _ HSR.out HRC_.out (by have h1_:=qbB HLT.out kr;have h2_:=HPE.out;have h3_:=HPN.out;rw[h2_]at h1_;omega)).mono ?_;rw[HBP.out];rintro e_ q1 ⟨B,m,d,rfl,hsl_,hmd_,hb_⟩;obtain rfl:m=bn:=by rw[<-HBN.out];exact hsl_.1.symm
   have HM8:=uH HM8 hb_;have HPO8:=zq (HPO8.out.under hb_);have HSO8:=zq (HSO8.out.under hb_);have HSR:=zq (HSR.out.under hb_);have HSL:=zq (hsl_);go_wp2_with fail;refine hK.out _ _ ?_ (fun hHeld=>?_)
   ·exact⟨s0.u hb_,s1.u hb_,s2.u hb_,bu s3 hb_⟩
  case' zb4=>
   go_simp;obtain⟨s0,s1,s2,s3⟩:=hHeld;refine(qeM rpath ⟨xe,xr⟩ RA rn rc _ HSR.out HRC_.out (by have h1_:=qbB HLT.out kr;have h2_:=HPE.out;have h3_:=HPN.out;rw[h2_]at h1_;omega)).mono ?_;rw[HBP.out];rintro e_ q1 ⟨B,m,d,rfl,hsl_,hmd_,hb_⟩;obtain rfl:m=bn:=by rw[<-HBN.out];exact hsl_.1.symm
   have HM8:=uH HM8 hb_;have HPO8:=zq (HPO8.out.under hb_);have HSO8:=zq (HSO8.out.under hb_);have HSR:=zq (HSR.out.under hb_);have HSL:=zq (hsl_);go_wp2_with fail;refine hK.out _ _ ?_ (fun hHeld=>?_)
   ·exact⟨s0.u hb_,s1.u hb_,s2.u hb_,bu s3 hb_⟩
   clear hK K s0 s1 s2 s3
   try simp only[lyZ]
   refine aoZ 1 (some 55) (fun K hK=>?_);skip;obtain⟨s0,s1,s2,s3⟩:=hHeld;have q_:=HM8.out.cell 2;go_simp;clear q_;refine hK.out _ _ ?_ (fun hHeld=>?_)
   ·exact⟨s0,s1,s2,s3⟩
  all_goals
   clear hK K s0 s1 s2 s3
   try simp only[lyZ]
   refine aoZ 6 (some 60) (fun K hK=>?_);skip;obtain⟨s0,s1,s2,s3⟩:=hHeld;obtain⟨hO,hSL,h1,hBD⟩:=pourR 16 HPO8.out HSL.out qc0 s3.size (by have h1_:=HPF.out;have h2_:=HBL.out;omega) (by omega);refine qcj (o:=⟨some 60,_,_,_,_,_⟩) (by rfl) (.tmp 55) (.tmp 59) 35 (by rfl) wa.heap.size 30 (.agg #[.int .i64 0,.bool false]) 2 16 Tryz.underlying35 qa6 (by rfl) (by decide) PX pn px _ (by rfl) hO B m d _ (by rfl) hSL h1 hBD ?_;intro X3 x3 u3 ho hg h5;have HNE3:=zq (show(Value.slice X3 (pn+m) x3).ownBlock≠some gfr from by
    rcases h5.out with e|e
    ·rw[e];exact HNE.out
    ·rw[e];intro h_;injection h_ with h_;have:=s1.lt;omega)
   have hs0:=s0.grow hg.out (Ne.symm (HPO8.out.apart s0 (by decide)));have hs1:=s1.grow hg.out (Ne.symm HNE.out);have hs2:=s2.grow hg.out (Ne.symm (HPO8.out.apart s2 (by decide)));have hs3:=qai s3 s3.size hO.out (Nat.le_refl _) rfl hg.out;have HM8:=zq (HM8.out.grow hg.out (Ne.symm (HPO8.out.apart HM8.out (by decide))));have HSO8:=zq (HSO8.out.kept hg.out (OwR.two HSO8.out HPO8.out (by decide)));have HPO8:=zq (OwR.poured HPO8.out.2 HBN.out ho.out);refine hK.out _ _ ?_ (fun hHeld=>?_)
   ·exact⟨hs0,hs1,hs2,hs3⟩
   clear hK K s0 s1 s2 s3
   try simp only[lyZ]
   refine tkZ 7 61 (h:=?_);simp only[lyZ];refine aoZ 8 none (fun K hK=>?_);rw[if_pos (by rfl)];obtain⟨s0,s1,s2,s3⟩:=hHeld;refine qaP 35 _ _ rfl (gm) 2 (.slice X3 (pn+m) x3) (by rfl) (by rfl) 38 #[.int .i64 ref,.bool rev,.slice PX pn px,.slice SX i sx,.int .i64 G] HM8.out (Nat.le_of_ble_eq_true rfl) (by kernel_rfl) rfl #[.int .i64 ref,.bool rev,.slice X3 (pn+m) x3,.slice SX i sx,.int .i64 G] rfl ?_;have HPO8:=zq (HPO8.out.kept (qal _ _ #[.int .i64 ref,.bool rev,.slice X3 (pn+m) x3,.slice SX i sx,.int .i64 G]) (.inr (HPO8.out.apart HM8.out (by decide))));have HSO8:=zq (HSO8.out.kept (qal _ _ #[.int .i64 ref,.bool rev,.slice X3 (pn+m) x3,.slice SX i sx,.int .i64 G]) (.inr (HSO8.out.apart HM8.out (by decide))));refine hK.out _ _ ?_ (fun hHeld=>?_)
   ·exact⟨qad s0 (by omega) _,qad s1 (by omega) _,qad s2 (by omega) _,qab s3 (by omega) _⟩
   have HM8:=zq (qaa HM8.out #[.int .i64 ref,.bool rev,.slice X3 (pn+m) x3,.slice SX i sx,.int .i64 G]);clear hK K s0 s1 s2 s3
   try simp only[Act.put]
   refine dnZ ?_;go_wp2_with fail;go_meet
   exact⟨rfl,X3,x3,HM8.out,hHeld.2.1,HNE3.out,HPO8.out,HSO8.out,hHeld.1,hHeld.2.2.1,hHeld.2.2.2⟩
 obtain⟨rfl,PX3,px3,hm_,hf_,hne_,hpo_,hso_,hr_,hp_,hb_⟩:=hcut;obtain⟨w9,hw9⟩: ∃u,u=wc:=⟨_,rfl⟩
 subst hw9;obtain⟨pn3,hpn3⟩: ∃m,pn+bn=m:=⟨_,rfl⟩
 obtain⟨P3,hP3⟩: ∃p,P0++bp=p:=⟨_,rfl⟩
 rw[hpn3]at hm_ hne_ hpo_;rw[hP3]at hpo_;have HP3:=zq (show g++authP t ⟨xe,xr⟩ (c.take (i+1))=P3 from by rw[HAS.out.2,<-List.append_assoc,HP0.out];exact hP3);rw[HP3.out]at HEG;skip;have HPN3:=zq (show pn3<=1000 from by have h1_:=HPF.out;have h2_:=HBL.out;omega);have HSM:=zq (qck HOK.out HEG.out);have HPL:=zq hpo_.2;obtain⟨S,hS⟩:=geZ (sumT t P3);rw[hS,HPL.out]at HSM;have HSE:=zq hS;obtain⟨D,hD⟩:=geZ (S-I);have hw1:IntKind.i64.wrap (S-I)=D:=by rw[IntKind.wrap_i64];have h1_:=HSM.out;have h2_:=HIB.out;have h3_:=HPN3.out;omega
 have HW1:=zq hw1;have HDT:=zq (show -1000000<=D/\D<=1000000000 from by have h1_:=HSM.out;have h2_:=HIB.out;have h3_:=HPN3.out;omega);have HAN:=zq (show qb6 t I ⟨xe,xr⟩ g (c.take (i+1))=L0++[⟨D,rt⟩]from by rw[HAS.out.1,HP3.out,hS,hD]);have HTN:=zq (show∀y∈qb6 t I ⟨xe,xr⟩ g (c.take (i+1)),-1000000<=y.to_/\y.to_<=1000000000 from by rw[HAN.out];intro y hy;rcases List.mem_append.1 hy with hy|hy;exact HTP.out y hy;rw[List.mem_singleton]at hy;subst hy;exact HDT.out);have HM9:=zq hm_;have HF9:=zq hf_;have HNE9:=zq hne_;have HPO9:=zq hpo_;have HSO9:=zq hso_;have HR9:=zq hr_;have HP9:=zq hp_;have HB9:=zq hb_;clear hm_ hf_ hne_ hpo_ hso_ hr_ hp_ hb_ hpn3 hP3 hS hD hw1 HM8 HF8 HP8 HPO8 HSO8 HR8 HB8 HSR;go_upto_region 9 with fail;go_cut [43] (fun s43 wx=>s43= .int .i64 i/\ ∃SX3 sx3,Has wx gm 38 #[.int .i64 ref,.bool rev,.slice PX3 pn3 px3,.slice SX3 (i+1) sx3,.int .i64 G]/\Has wx gfr 30 #[.int .i64 xe,.bool xr]/\OwR stC 2 30 wa.heap.size wx PX3 pn3 px3 P3/\OwR scC17 2 66 wa.heap.size wx SX3 (i+1) sx3 (L0++[⟨D,rt⟩])/\Has wx gr 75 #[.int .i64 ri,.slice RA rn rc,.int .i64 rg,.int .i64 rt]/\Has wx gP 51 #[.int .i64 pe,.int .i64 pa,.bool pr]/\Below wa.heap.size wa wx)
 case first=>
  refine wp_region_held_drew (S:=(fun W_=>(Has W_ (w.heap.size) 27 (tpC t a))/\(W_.cell? ⟨gm,2,none⟩=some (.slice PX3 pn3 px3))/\(Has W_ (gr) 75 #[.int .i64 ri,.slice RA rn rc,.int .i64 rg,.int .i64 rt])/\(Has W_ (gP) 51 #[.int .i64 pe,.int .i64 pa,.bool pr])/\(Has W_ (gfr) 30 #[.int .i64 xe,.bool xr])/\(Below wa.heap.size wa W_))) (by kernel_rfl) ?_ (fun hHeld=>?_)
  ·exact⟨(H0.out _ HB9.out).draw,HM9.out.draw.cell 2,HR9.out.draw,HP9.out.draw,HF9.out.draw,qaf HB9.out⟩
  have HM9:=zq HM9.out.draw;have HPO9:=zq HPO9.out.draw1;have HSO9:=zq HSO9.out.draw1;refine tkZ 0 62 (h:=?_);simp only[lyZ];refine tlZ 2 64 w.heap.size (tpC t a) (fun _ ⟨h_,_,_,_,_,_⟩=>h_) (h:=?_);simp only[lyZ];refine tkZ 3 65 (h:=?_);simp only[lyZ];refine tqZ 4 66 (fun w_ ⟨s0,s1,s2,s3,s4,s5⟩=>s1) (h:=?_);simp only[lyZ];refine tlZ 6 68 w.heap.size (tpC t a) (fun _ ⟨h_,_,_,_,_,_⟩=>h_) (h:=?_);simp only[lyZ];refine tlZ 7 69 gP #[.int .i64 pe,.int .i64 pa,.bool pr] (fun _ ⟨_,_,_,h_,_,_⟩=>h_) (h:=?_);simp only[lyZ];refine tkZ 10 72 (h:=?_);simp only[lyZ];refine tqZ 11 73 (fun w_ ⟨s0,s1,s2,s3,s4,s5⟩=>(show w_.cell? ⟨gr,3,none⟩=some (.int .i64 rt:Value)from s2.cell 3)) (h:=?_);simp only[lyZ];refine rdZ [1,5] ?_;refine acZ (some 63) (fun K hK=>?_) ?_
  ·skip
   obtain⟨s0,s1,s2,s3,s4,s5⟩:=hHeld;have q_:=HM9.out.cell 3;go_simp;clear q_;refine hK.out _ _ ?_ (fun hHeld=>?_)
   ·exact⟨s0,s1,s2,s3,s4,s5⟩
   clear hK K s0 s1 s2 s3 s4 s5
   try simp only[lyZ]
   refine aoZ 5 (some 67) (fun K hK=>?_);go_simp;obtain⟨s0,s1,s2,s3,s4,s5⟩:=hHeld;refine(HTO.out _ (bu HBWA.out s5) P3 PX3 pn3 px3 HPO9.out.sl (by have:=HPN3.out;omega) HEG.out).mono ?_;rw[HSE.out];rintro e_ q1 ⟨rfl,hb_⟩;have HM9:=uH HM9 hb_;have HPO9:=zq (HPO9.out.under hb_);have HSO9:=zq (HSO9.out.under hb_);go_wp2_with fail;refine hK.out _ _ ?_ (fun hHeld=>?_)
   ·exact⟨s0.u hb_,(hb_.cell (qah s1)).trans s1,s2.u hb_,s3.u hb_,s4.u hb_,bu s5 hb_⟩
   clear hK K s0 s1 s2 s3 s4 s5
   try simp only[lyZ]
   refine aoZ 8 (some 70) (fun K hK=>?_);go_simp;obtain⟨s0,s1,s2,s3,s4,s5⟩:=hHeld;refine(HEO.out _ (bu HBWA.out s5)).mono ?_;rintro e_ q2 ⟨rfl,hb2_⟩;have HM9:=uH HM9 hb2_;have HPO9:=zq (HPO9.out.under hb2_);have HSO9:=zq (HSO9.out.under hb2_);go_wp2_with fail;refine hK.out _ _ ?_ (fun hHeld=>?_)
   ·exact⟨s0.u hb2_,(hb2_.cell (qah s1)).trans s1,s2.u hb2_,s3.u hb2_,s4.u hb2_,bu s5 hb2_⟩
   clear hK K s0 s1 s2 s3 s4 s5
   try simp only[lyZ]
   refine tqZ 9 71 (fun w_ ⟨s0,s1,s2,s3,s4,s5⟩=>HW1.out) (h:=?_);simp only[lyZ];refine tkZ 12 74 (h:=?_);simp only[lyZ];refine aoZ 13 (some 75) (fun K hK=>?_);go_simp;obtain⟨s0,s1,s2,s3,s4,s5⟩:=hHeld;obtain⟨gl,hgl⟩:=geZ (q2.heap.size);have p0_gl:w.heap.size<gl:=by rw[<-hgl];exact s0.lt
   have p2_gl:gr<gl:=by rw[<-hgl];exact s2.lt
   have p3_gl:gP<gl:=by rw[<-hgl];exact s3.lt
   have p4_gl:gfr<gl:=by rw[<-hgl];exact s4.lt
   have p5_gl:wa.heap.size<=gl:=by rw[<-hgl];exact s5.size
   rw[hgl];refine hK.out _ _ ?_ (fun hHeld=>?_)
   ·exact⟨s0.beside _,((bA).cell (qah s1)).trans s1,s2.beside _,s3.beside _,s4.beside _,qan s5 _⟩
   have HNL:=zq (show(Value.slice SX i sx).ownBlock≠some gl from by rw[<-hgl];exact HSO9.out.ne (Nat.le_refl _));have HM9:=zq (HM9.out.beside (.cells #[.int .i64 D,.int .i64 rt] 66));have HPO9:=zq (HPO9.out.under ((Below.refl _ _).alloc (Nat.le_refl _) (.cells #[.int .i64 D,.int .i64 rt] 66)));have HSO9:=zq (HSO9.out.under ((Below.refl _ _).alloc (Nat.le_refl _) (.cells #[.int .i64 D,.int .i64 rt] 66)));refine qaw (T:=(fun W_=>(Has W_ (w.heap.size) 27 (tpC t a))/\(W_.cell? ⟨gm,2,none⟩=some (.slice PX3 pn3 px3))/\(Has W_ (gr) 75 #[.int .i64 ri,.slice RA rn rc,.int .i64 rg,.int .i64 rt])/\(Has W_ (gP) 51 #[.int .i64 pe,.int .i64 pa,.bool pr])/\(Has W_ (gfr) 30 #[.int .i64 xe,.bool xr])/\(Below wa.heap.size wa W_)/\(Has W_ (gl) 66 #[.int .i64 D,.int .i64 rt]))) (fun _ ⟨s0,s1,s2,s3,s4,s5,s6⟩=>⟨s0,s1,s2,s3,s4,s5⟩) ?_;have hHeld2:(fun W_=>(Has W_ (w.heap.size) 27 (tpC t a))/\(W_.cell? ⟨gm,2,none⟩=some (.slice PX3 pn3 px3))/\(Has W_ (gr) 75 #[.int .i64 ri,.slice RA rn rc,.int .i64 rg,.int .i64 rt])/\(Has W_ (gP) 51 #[.int .i64 pe,.int .i64 pa,.bool pr])/\(Has W_ (gfr) 30 #[.int .i64 xe,.bool xr])/\(Below wa.heap.size wa W_)/\(Has W_ (gl) 66 #[.int .i64 D,.int .i64 rt])) _:=⟨s0.beside _,((bA).cell (qah s1)).trans s1,s2.beside _,s3.beside _,s4.beside _,qan s5 _,(by rw[<-hgl];exact Has.made _ _ _)⟩
   clear hHeld;have hHeld:=hHeld2;clear hHeld2;clear hK K hgl s0 s1 s2 s3 s4 s5
   try simp only[lyZ]
   refine aoZ 14 (some 76) (fun K hK=>?_);skip;obtain⟨s0,s1,s2,s3,s4,s5,s6⟩:=hHeld;obtain⟨hO,hSL,h1,hBD⟩:=pourR 16 HSO9.out (⟨rfl,qa7 s6 rfl⟩:SlO scC17 2 _ (some ⟨gl,0,none⟩) 1 1 [⟨D,rt⟩]) qdZ s5.size (by have h1_:=HIN.out;have h2_:=HCN.out;omega) (by omega);refine qcj (o:=⟨some 76,_,_,_,_,_⟩) (by rfl) (.tmp 63) (.tmp 75) 36 (by rfl) wa.heap.size 66 (.agg #[.int .i64 0,.int .i64 0]) 2 16 Tryz.underlying36 qcf (by rfl) (by decide) SX i sx _ (by rfl) hO (some ⟨gl,0,none⟩) 1 1 _ (by rfl) hSL h1 hBD ?_;intro X3 x3 u3 ho hg h5;have hs0:=s0.grow hg.out (Ne.symm (HSO9.out.apart s0 (by decide)));have hs1:=hg.out.cell s1 (Ne.symm (HSO9.out.apart HM9.out (by decide)));have hs2:=s2.grow hg.out (Ne.symm (HSO9.out.apart s2 (by decide)));have hs3:=s3.grow hg.out (Ne.symm (HSO9.out.apart s3 (by decide)));have hs4:=s4.grow hg.out (Ne.symm (HSO9.out.apart s4 (by decide)));have hs5:=qai s5 s5.size hO.out (Nat.le_refl _) rfl hg.out;have hs6:=s6.grow hg.out (Ne.symm HNL.out);have HM9:=zq (HM9.out.grow hg.out (Ne.symm (HSO9.out.apart HM9.out (by decide))));have HPO9:=zq (HPO9.out.kept hg.out (OwR.two HPO9.out HSO9.out (by decide)));have HSO9:=zq (OwR.poured (l':=[⟨D,rt⟩]) HSO9.out.2 rfl ho.out);refine hK.out _ _ ?_ (fun hHeld=>?_)
   ·exact⟨hs0,hs1,hs2,hs3,hs4,hs5,hs6⟩
   clear hK K s0 s1 s2 s3 s4 s5 s6
   try simp only[lyZ]
   refine tkZ 15 77 (h:=?_);simp only[lyZ];refine aoZ 16 none (fun K hK=>?_);rw[if_pos (by rfl)];obtain⟨s0,s1,s2,s3,s4,s5,s6⟩:=hHeld;refine qaP 36 _ _ rfl (gm) 3 (.slice X3 (i+1) x3) (by rfl) (by rfl) 38 #[.int .i64 ref,.bool rev,.slice PX3 pn3 px3,.slice SX i sx,.int .i64 G] HM9.out (Nat.le_of_ble_eq_true rfl) (by kernel_rfl) rfl #[.int .i64 ref,.bool rev,.slice PX3 pn3 px3,.slice X3 (i+1) x3,.int .i64 G] rfl ?_;have HPO9:=zq (HPO9.out.kept (qal _ _ #[.int .i64 ref,.bool rev,.slice PX3 pn3 px3,.slice X3 (i+1) x3,.int .i64 G]) (.inr (HPO9.out.apart HM9.out (by decide))));have HSO9:=zq (HSO9.out.kept (qal _ _ #[.int .i64 ref,.bool rev,.slice PX3 pn3 px3,.slice X3 (i+1) x3,.int .i64 G]) (.inr (HSO9.out.apart HM9.out (by decide))));refine hK.out _ _ ?_ (fun hHeld=>?_)
   ·exact⟨qad s0 (by omega) _,(qaa HM9.out #[.int .i64 ref,.bool rev,.slice PX3 pn3 px3,.slice X3 (i+1) x3,.int .i64 G]).cell 2,qad s2 (by omega) _,qad s3 (by omega) _,qad s4 (by omega) _,qab s5 (by omega) _,qad s6 (by omega) _⟩
   have HM9:=zq (qaa HM9.out #[.int .i64 ref,.bool rev,.slice PX3 pn3 px3,.slice X3 (i+1) x3,.int .i64 G]);clear hK K s0 s1 s2 s3 s4 s5 s6
   try simp only[Act.put]
   refine dnZ ?_;go_wp2_with fail;go_meet
   exact⟨rfl,X3,x3,HM9.out,hHeld.2.2.2.2.1,HPO9.out,HSO9.out,hHeld.2.2.1,hHeld.2.2.2.1,hHeld.2.2.2.2.2.1⟩
  refine acZ (some 67) (fun K hK=>?_) ?_
  ·go_simp
   obtain⟨s0,s1,s2,s3,s4,s5⟩:=hHeld;refine(HTO.out _ (bu HBWA.out s5) P3 PX3 pn3 px3 HPO9.out.sl (by have:=HPN3.out;omega) HEG.out).mono ?_;rw[HSE.out];rintro e_ q1 ⟨rfl,hb_⟩;have HM9:=uH HM9 hb_;have HPO9:=zq (HPO9.out.under hb_);have HSO9:=zq (HSO9.out.under hb_);go_wp2_with fail;refine hK.out _ _ ?_ (fun hHeld=>?_)
   ·exact⟨s0.u hb_,(hb_.cell (qah s1)).trans s1,s2.u hb_,s3.u hb_,s4.u hb_,bu s5 hb_⟩
   clear hK K s0 s1 s2 s3 s4 s5
   try simp only[lyZ]
   refine rdZ [1,8] ?_;refine acZ (some 63) (fun K hK=>?_) ?_
   ·skip
    obtain⟨s0,s1,s2,s3,s4,s5⟩:=hHeld;have q_:=HM9.out.cell 3;go_simp;clear q_;refine hK.out _ _ ?_ (fun hHeld=>?_)
    ·exact⟨s0,s1,s2,s3,s4,s5⟩
    clear hK K s0 s1 s2 s3 s4 s5
    try simp only[lyZ]
    refine aoZ 8 (some 70) (fun K hK=>?_);go_simp;obtain⟨s0,s1,s2,s3,s4,s5⟩:=hHeld;refine(HEO.out _ (bu HBWA.out s5)).mono ?_;rintro e_ q2 ⟨rfl,hb2_⟩;have HM9:=uH HM9 hb2_;have HPO9:=zq (HPO9.out.under hb2_);have HSO9:=zq (HSO9.out.under hb2_);go_wp2_with fail;refine hK.out _ _ ?_ (fun hHeld=>?_)
    ·exact⟨s0.u hb2_,(hb2_.cell (qah s1)).trans s1,s2.u hb2_,s3.u hb2_,s4.u hb2_,bu s5 hb2_⟩
    clear hK K s0 s1 s2 s3 s4 s5
    try simp only[lyZ]
    refine tqZ 9 71 (fun w_ ⟨s0,s1,s2,s3,s4,s5⟩=>HW1.out) (h:=?_);simp only[lyZ];refine tkZ 12 74 (h:=?_);simp only[lyZ];refine aoZ 13 (some 75) (fun K hK=>?_);go_simp;obtain⟨s0,s1,s2,s3,s4,s5⟩:=hHeld;obtain⟨gl,hgl⟩:=geZ (q2.heap.size);have p0_gl:w.heap.size<gl:=by rw[<-hgl];exact s0.lt
    have p2_gl:gr<gl:=by rw[<-hgl];exact s2.lt
    have p3_gl:gP<gl:=by rw[<-hgl];exact s3.lt
    have p4_gl:gfr<gl:=by rw[<-hgl];exact s4.lt
    have p5_gl:wa.heap.size<=gl:=by rw[<-hgl];exact s5.size
    rw[hgl];refine hK.out _ _ ?_ (fun hHeld=>?_)
    ·exact⟨s0.beside _,((bA).cell (qah s1)).trans s1,s2.beside _,s3.beside _,s4.beside _,qan s5 _⟩
    have HNL:=zq (show(Value.slice SX i sx).ownBlock≠some gl from by rw[<-hgl];exact HSO9.out.ne (Nat.le_refl _));have HM9:=zq (HM9.out.beside (.cells #[.int .i64 D,.int .i64 rt] 66));have HPO9:=zq (HPO9.out.under ((Below.refl _ _).alloc (Nat.le_refl _) (.cells #[.int .i64 D,.int .i64 rt] 66)));have HSO9:=zq (HSO9.out.under ((Below.refl _ _).alloc (Nat.le_refl _) (.cells #[.int .i64 D,.int .i64 rt] 66)));refine qaw (T:=(fun W_=>(Has W_ (w.heap.size) 27 (tpC t a))/\(W_.cell? ⟨gm,2,none⟩=some (.slice PX3 pn3 px3))/\(Has W_ (gr) 75 #[.int .i64 ri,.slice RA rn rc,.int .i64 rg,.int .i64 rt])/\(Has W_ (gP) 51 #[.int .i64 pe,.int .i64 pa,.bool pr])/\(Has W_ (gfr) 30 #[.int .i64 xe,.bool xr])/\(Below wa.heap.size wa W_)/\(Has W_ (gl) 66 #[.int .i64 D,.int .i64 rt]))) (fun _ ⟨s0,s1,s2,s3,s4,s5,s6⟩=>⟨s0,s1,s2,s3,s4,s5⟩) ?_;have hHeld2:(fun W_=>(Has W_ (w.heap.size) 27 (tpC t a))/\(W_.cell? ⟨gm,2,none⟩=some (.slice PX3 pn3 px3))/\(Has W_ (gr) 75 #[.int .i64 ri,.slice RA rn rc,.int .i64 rg,.int .i64 rt])/\(Has W_ (gP) 51 #[.int .i64 pe,.int .i64 pa,.bool pr])/\(Has W_ (gfr) 30 #[.int .i64 xe,.bool xr])/\(Below wa.heap.size wa W_)/\(Has W_ (gl) 66 #[.int .i64 D,.int .i64 rt])) _:=⟨s0.beside _,((bA).cell (qah s1)).trans s1,s2.beside _,s3.beside _,s4.beside _,qan s5 _,(by rw[<-hgl];exact Has.made _ _ _)⟩
    clear hHeld;have hHeld:=hHeld2;clear hHeld2;clear hK K hgl s0 s1 s2 s3 s4 s5
    try simp only[lyZ]
    refine aoZ 14 (some 76) (fun K hK=>?_);skip;obtain⟨s0,s1,s2,s3,s4,s5,s6⟩:=hHeld;obtain⟨hO,hSL,h1,hBD⟩:=pourR 16 HSO9.out (⟨rfl,qa7 s6 rfl⟩:SlO scC17 2 _ (some ⟨gl,0,none⟩) 1 1 [⟨D,rt⟩]) qdZ s5.size (by have h1_:=HIN.out;have h2_:=HCN.out;omega) (by omega);refine qcj (o:=⟨some 76,_,_,_,_,_⟩) (by rfl) (.tmp 63) (.tmp 75) 36 (by rfl) wa.heap.size 66 (.agg #[.int .i64 0,.int .i64 0]) 2 16 Tryz.underlying36 qcf (by rfl) (by decide) SX i sx _ (by rfl) hO (some ⟨gl,0,none⟩) 1 1 _ (by rfl) hSL h1 hBD ?_;intro X3 x3 u3 ho hg h5;have hs0:=s0.grow hg.out (Ne.symm (HSO9.out.apart s0 (by decide)));have hs1:=hg.out.cell s1 (Ne.symm (HSO9.out.apart HM9.out (by decide)));have hs2:=s2.grow hg.out (Ne.symm (HSO9.out.apart s2 (by decide)));have hs3:=s3.grow hg.out (Ne.symm (HSO9.out.apart s3 (by decide)));have hs4:=s4.grow hg.out (Ne.symm (HSO9.out.apart s4 (by decide)));have hs5:=qai s5 s5.size hO.out (Nat.le_refl _) rfl hg.out;have hs6:=s6.grow hg.out (Ne.symm HNL.out);have HM9:=zq (HM9.out.grow hg.out (Ne.symm (HSO9.out.apart HM9.out (by decide))));have HPO9:=zq (HPO9.out.kept hg.out (OwR.two HPO9.out HSO9.out (by decide)));have HSO9:=zq (OwR.poured (l':=[⟨D,rt⟩]) HSO9.out.2 rfl ho.out);refine hK.out _ _ ?_ (fun hHeld=>?_)
    ·exact⟨hs0,hs1,hs2,hs3,hs4,hs5,hs6⟩
    clear hK K s0 s1 s2 s3 s4 s5 s6
    try simp only[lyZ]
    refine tkZ 15 77 (h:=?_);simp only[lyZ];refine aoZ 16 none (fun K hK=>?_);rw[if_pos (by rfl)];obtain⟨s0,s1,s2,s3,s4,s5,s6⟩:=hHeld;refine qaP 36 _ _ rfl (gm) 3 (.slice X3 (i+1) x3) (by rfl) (by rfl) 38 #[.int .i64 ref,.bool rev,.slice PX3 pn3 px3,.slice SX i sx,.int .i64 G] HM9.out (Nat.le_of_ble_eq_true rfl) (by kernel_rfl) rfl #[.int .i64 ref,.bool rev,.slice PX3 pn3 px3,.slice X3 (i+1) x3,.int .i64 G] rfl ?_;have HPO9:=zq (HPO9.out.kept (qal _ _ #[.int .i64 ref,.bool rev,.slice PX3 pn3 px3,.slice X3 (i+1) x3,.int .i64 G]) (.inr (HPO9.out.apart HM9.out (by decide))));have HSO9:=zq (HSO9.out.kept (qal _ _ #[.int .i64 ref,.bool rev,.slice PX3 pn3 px3,.slice X3 (i+1) x3,.int .i64 G]) (.inr (HSO9.out.apart HM9.out (by decide))));refine hK.out _ _ ?_ (fun hHeld=>?_)
    ·exact⟨qad s0 (by omega) _,(qaa HM9.out #[.int .i64 ref,.bool rev,.slice PX3 pn3 px3,.slice X3 (i+1) x3,.int .i64 G]).cell 2,qad s2 (by omega) _,qad s3 (by omega) _,qad s4 (by omega) _,qab s5 (by omega) _,qad s6 (by omega) _⟩
    have HM9:=zq (qaa HM9.out #[.int .i64 ref,.bool rev,.slice PX3 pn3 px3,.slice X3 (i+1) x3,.int .i64 G]);clear hK K s0 s1 s2 s3 s4 s5 s6
    try simp only[Act.put]
    refine dnZ ?_;go_wp2_with fail;go_meet
    exact⟨rfl,X3,x3,HM9.out,hHeld.2.2.2.2.1,HPO9.out,HSO9.out,hHeld.2.2.1,hHeld.2.2.2.1,hHeld.2.2.2.2.2.1⟩
   refine acZ (some 70) (fun K hK=>?_) ?_
   ·go_simp
    obtain⟨s0,s1,s2,s3,s4,s5⟩:=hHeld;refine(HEO.out _ (bu HBWA.out s5)).mono ?_;rintro e_ q2 ⟨rfl,hb2_⟩;have HM9:=uH HM9 hb2_;have HPO9:=zq (HPO9.out.under hb2_);have HSO9:=zq (HSO9.out.under hb2_);go_wp2_with fail;refine hK.out _ _ ?_ (fun hHeld=>?_)
    ·exact⟨s0.u hb2_,(hb2_.cell (qah s1)).trans s1,s2.u hb2_,s3.u hb2_,s4.u hb2_,bu s5 hb2_⟩
    clear hK K s0 s1 s2 s3 s4 s5
    try simp only[lyZ]
    refine tqZ 9 71 (fun w_ ⟨s0,s1,s2,s3,s4,s5⟩=>HW1.out) (h:=?_);simp only[lyZ];refine tkZ 12 74 (h:=?_);simp only[lyZ];refine rdZ [1,13] (acZ (some 63) (fun K hK=>?za5) (acZ (some 75) (fun K hK=>?zb5) AllReadyH.nil))
    case' za5=>
     skip;obtain⟨s0,s1,s2,s3,s4,s5⟩:=hHeld;have q_:=HM9.out.cell 3;go_simp;clear q_;refine hK.out _ _ ?_ (fun hHeld=>?_)
     ·exact⟨s0,s1,s2,s3,s4,s5⟩
     clear hK K s0 s1 s2 s3 s4 s5
     try simp only[lyZ]
     refine aoZ 13 (some 75) (fun K hK=>?_);go_simp;obtain⟨s0,s1,s2,s3,s4,s5⟩:=hHeld;obtain⟨gl,hgl⟩:=geZ (q2.heap.size);have p0_gl:w.heap.size<gl:=by rw[<-hgl];exact s0.lt
     have p2_gl:gr<gl:=by rw[<-hgl];exact s2.lt
     have p3_gl:gP<gl:=by rw[<-hgl];exact s3.lt
     have p4_gl:gfr<gl:=by rw[<-hgl];exact s4.lt
     have p5_gl:wa.heap.size<=gl:=by rw[<-hgl];exact s5.size
     rw[hgl];refine hK.out _ _ ?_ (fun hHeld=>?_)
     ·exact⟨s0.beside _,((bA).cell (qah s1)).trans s1,s2.beside _,s3.beside _,s4.beside _,qan s5 _⟩
     have HNL:=zq (show(Value.slice SX i sx).ownBlock≠some gl from by rw[<-hgl];exact HSO9.out.ne (Nat.le_refl _));have HM9:=zq (HM9.out.beside (.cells #[.int .i64 D,.int .i64 rt] 66));have HPO9:=zq (HPO9.out.under ((Below.refl _ _).alloc (Nat.le_refl _) (.cells #[.int .i64 D,.int .i64 rt] 66)));have HSO9:=zq (HSO9.out.under ((Below.refl _ _).alloc (Nat.le_refl _) (.cells #[.int .i64 D,.int .i64 rt] 66)));refine qaw (T:=(fun W_=>(Has W_ (w.heap.size) 27 (tpC t a))/\(W_.cell? ⟨gm,2,none⟩=some (.slice PX3 pn3 px3))/\(Has W_ (gr) 75 #[.int .i64 ri,.slice RA rn rc,.int .i64 rg,.int .i64 rt])/\(Has W_ (gP) 51 #[.int .i64 pe,.int .i64 pa,.bool pr])/\(Has W_ (gfr) 30 #[.int .i64 xe,.bool xr])/\(Below wa.heap.size wa W_)/\(Has W_ (gl) 66 #[.int .i64 D,.int .i64 rt]))) (fun _ ⟨s0,s1,s2,s3,s4,s5,s6⟩=>⟨s0,s1,s2,s3,s4,s5⟩) ?_;have hHeld2:(fun W_=>(Has W_ (w.heap.size) 27 (tpC t a))/\(W_.cell? ⟨gm,2,none⟩=some (.slice PX3 pn3 px3))/\(Has W_ (gr) 75 #[.int .i64 ri,.slice RA rn rc,.int .i64 rg,.int .i64 rt])/\(Has W_ (gP) 51 #[.int .i64 pe,.int .i64 pa,.bool pr])/\(Has W_ (gfr) 30 #[.int .i64 xe,.bool xr])/\(Below wa.heap.size wa W_)/\(Has W_ (gl) 66 #[.int .i64 D,.int .i64 rt])) _:=⟨s0.beside _,((bA).cell (qah s1)).trans s1,s2.beside _,s3.beside _,s4.beside _,qan s5 _,(by rw[<-hgl];exact Has.made _ _ _)⟩
     clear hHeld;have hHeld:=hHeld2;clear hHeld2;clear hK K hgl s0 s1 s2 s3 s4 s5
    case' zb5=>
     go_simp;obtain⟨s0,s1,s2,s3,s4,s5⟩:=hHeld;obtain⟨gl,hgl⟩:=geZ (q2.heap.size);have p0_gl:w.heap.size<gl:=by rw[<-hgl];exact s0.lt
     have p2_gl:gr<gl:=by rw[<-hgl];exact s2.lt
     have p3_gl:gP<gl:=by rw[<-hgl];exact s3.lt
     have p4_gl:gfr<gl:=by rw[<-hgl];exact s4.lt
     have p5_gl:wa.heap.size<=gl:=by rw[<-hgl];exact s5.size
     rw[hgl];refine hK.out _ _ ?_ (fun hHeld=>?_)
     ·exact⟨s0.beside _,((bA).cell (qah s1)).trans s1,s2.beside _,s3.beside _,s4.beside _,qan s5 _⟩
     have HNL:=zq (show(Value.slice SX i sx).ownBlock≠some gl from by rw[<-hgl];exact HSO9.out.ne (Nat.le_refl _));have HM9:=zq (HM9.out.beside (.cells #[.int .i64 D,.int .i64 rt] 66));have HPO9:=zq (HPO9.out.under ((Below.refl _ _).alloc (Nat.le_refl _) (.cells #[.int .i64 D,.int .i64 rt] 66)));have HSO9:=zq (HSO9.out.under ((Below.refl _ _).alloc (Nat.le_refl _) (.cells #[.int .i64 D,.int .i64 rt] 66)));refine qaw (T:=(fun W_=>(Has W_ (w.heap.size) 27 (tpC t a))/\(W_.cell? ⟨gm,2,none⟩=some (.slice PX3 pn3 px3))/\(Has W_ (gr) 75 #[.int .i64 ri,.slice RA rn rc,.int .i64 rg,.int .i64 rt])/\(Has W_ (gP) 51 #[.int .i64 pe,.int .i64 pa,.bool pr])/\(Has W_ (gfr) 30 #[.int .i64 xe,.bool xr])/\(Below wa.heap.size wa W_)/\(Has W_ (gl) 66 #[.int .i64 D,.int .i64 rt]))) (fun _ ⟨s0,s1,s2,s3,s4,s5,s6⟩=>⟨s0,s1,s2,s3,s4,s5⟩) ?_;have hHeld2:(fun W_=>(Has W_ (w.heap.size) 27 (tpC t a))/\(W_.cell? ⟨gm,2,none⟩=some (.slice PX3 pn3 px3))/\(Has W_ (gr) 75 #[.int .i64 ri,.slice RA rn rc,.int .i64 rg,.int .i64 rt])/\(Has W_ (gP) 51 #[.int .i64 pe,.int .i64 pa,.bool pr])/\(Has W_ (gfr) 30 #[.int .i64 xe,.bool xr])/\(Below wa.heap.size wa W_)/\(Has W_ (gl) 66 #[.int .i64 D,.int .i64 rt])) _:=⟨s0.beside _,((bA).cell (qah s1)).trans s1,s2.beside _,s3.beside _,s4.beside _,qan s5 _,(by rw[<-hgl];exact Has.made _ _ _)⟩
     clear hHeld;have hHeld:=hHeld2;clear hHeld2;clear hK K hgl s0 s1 s2 s3 s4 s5
     try simp only[lyZ]
     refine aoZ 1 (some 63) (fun K hK=>?_);skip;obtain⟨s0,s1,s2,s3,s4,s5,s6⟩:=hHeld;have q_:=HM9.out.cell 3;go_simp;clear q_;refine hK.out _ _ ?_ (fun hHeld=>?_)
     ·exact⟨s0,s1,s2,s3,s4,s5,s6⟩
     clear hK K s0 s1 s2 s3 s4 s5 s6
    all_goals
     try simp only[lyZ]
     refine aoZ 14 (some 76) (fun K hK=>?_);skip;obtain⟨s0,s1,s2,s3,s4,s5,s6⟩:=hHeld;obtain⟨hO,hSL,h1,hBD⟩:=pourR 16 HSO9.out (⟨rfl,qa7 s6 rfl⟩:SlO scC17 2 _ (some ⟨gl,0,none⟩) 1 1 [⟨D,rt⟩]) qdZ s5.size (by have h1_:=HIN.out;have h2_:=HCN.out;omega) (by omega);refine qcj (o:=⟨some 76,_,_,_,_,_⟩) (by rfl) (.tmp 63) (.tmp 75) 36 (by rfl) wa.heap.size 66 (.agg #[.int .i64 0,.int .i64 0]) 2 16 Tryz.underlying36 qcf (by rfl) (by decide) SX i sx _ (by rfl) hO (some ⟨gl,0,none⟩) 1 1 _ (by rfl) hSL h1 hBD ?_;intro X3 x3 u3 ho hg h5;have hs0:=s0.grow hg.out (Ne.symm (HSO9.out.apart s0 (by decide)));have hs1:=hg.out.cell s1 (Ne.symm (HSO9.out.apart HM9.out (by decide)));have hs2:=s2.grow hg.out (Ne.symm (HSO9.out.apart s2 (by decide)));have hs3:=s3.grow hg.out (Ne.symm (HSO9.out.apart s3 (by decide)));have hs4:=s4.grow hg.out (Ne.symm (HSO9.out.apart s4 (by decide)));have hs5:=qai s5 s5.size hO.out (Nat.le_refl _) rfl hg.out;have hs6:=s6.grow hg.out (Ne.symm HNL.out);have HM9:=zq (HM9.out.grow hg.out (Ne.symm (HSO9.out.apart HM9.out (by decide))));have HPO9:=zq (HPO9.out.kept hg.out (OwR.two HPO9.out HSO9.out (by decide)));have HSO9:=zq (OwR.poured (l':=[⟨D,rt⟩]) HSO9.out.2 rfl ho.out);refine hK.out _ _ ?_ (fun hHeld=>?_)
     ·exact⟨hs0,hs1,hs2,hs3,hs4,hs5,hs6⟩
     clear hK K s0 s1 s2 s3 s4 s5 s6
     try simp only[lyZ]
     refine tkZ 15 77 (h:=?_);simp only[lyZ];refine aoZ 16 none (fun K hK=>?_);rw[if_pos (by rfl)];obtain⟨s0,s1,s2,s3,s4,s5,s6⟩:=hHeld;refine qaP 36 _ _ rfl (gm) 3 (.slice X3 (i+1) x3) (by rfl) (by rfl) 38 #[.int .i64 ref,.bool rev,.slice PX3 pn3 px3,.slice SX i sx,.int .i64 G] HM9.out (Nat.le_of_ble_eq_true rfl) (by kernel_rfl) rfl #[.int .i64 ref,.bool rev,.slice PX3 pn3 px3,.slice X3 (i+1) x3,.int .i64 G] rfl ?_;have HPO9:=zq (HPO9.out.kept (qal _ _ #[.int .i64 ref,.bool rev,.slice PX3 pn3 px3,.slice X3 (i+1) x3,.int .i64 G]) (.inr (HPO9.out.apart HM9.out (by decide))));have HSO9:=zq (HSO9.out.kept (qal _ _ #[.int .i64 ref,.bool rev,.slice PX3 pn3 px3,.slice X3 (i+1) x3,.int .i64 G]) (.inr (HSO9.out.apart HM9.out (by decide))));refine hK.out _ _ ?_ (fun hHeld=>?_)
     ·exact⟨qad s0 (by omega) _,(qaa HM9.out #[.int .i64 ref,.bool rev,.slice PX3 pn3 px3,.slice X3 (i+1) x3,.int .i64 G]).cell 2,qad s2 (by omega) _,qad s3 (by omega) _,qad s4 (by omega) _,qab s5 (by omega) _,qad s6 (by omega) _⟩
     have HM9:=zq (qaa HM9.out #[.int .i64 ref,.bool rev,.slice PX3 pn3 px3,.slice X3 (i+1) x3,.int .i64 G]);clear hK K s0 s1 s2 s3 s4 s5 s6
     try simp only[Act.put]
     refine dnZ ?_;go_wp2_with fail;go_meet
     exact⟨rfl,X3,x3,HM9.out,hHeld.2.2.2.2.1,HPO9.out,HSO9.out,hHeld.2.2.1,hHeld.2.2.2.1,hHeld.2.2.2.2.2.1⟩
   exact AllReadyH.nil
  exact AllReadyH.nil
 obtain⟨rfl,SX3,sx3,hm_,hf_,hpo_,hso_,hr_,hp_,hb_⟩:=hcut;obtain⟨w10,hw10⟩: ∃u,u=wc:=⟨_,rfl⟩
 subst hw10;have e2:w10.cell? ⟨gr,2,none⟩=some (.int .i64 rg):=hr_.cell 2;have HM10:=zq hm_;have HMN:=zq (qaa hm_ #[.int .i64 ref,.bool rev,.slice PX3 pn3 px3,.slice SX3 (i+1) sx3,.int .i64 rg]);have HFN:=zq (qad (g:=gm) hf_ (by omega) #[.int .i64 ref,.bool rev,.slice PX3 pn3 px3,.slice SX3 (i+1) sx3,.int .i64 rg]);have HPN_:=zq (qad (g:=gm) hp_ (by omega) #[.int .i64 ref,.bool rev,.slice PX3 pn3 px3,.slice SX3 (i+1) sx3,.int .i64 rg]);have HPON:=zq (hpo_.kept (qal w10 gm #[.int .i64 ref,.bool rev,.slice PX3 pn3 px3,.slice SX3 (i+1) sx3,.int .i64 rg]) (.inr (hpo_.apart hm_ (by decide))));have HSON:=zq (hso_.kept (qal w10 gm #[.int .i64 ref,.bool rev,.slice PX3 pn3 px3,.slice SX3 (i+1) sx3,.int .i64 rg]) (.inr (hso_.apart hm_ (by decide))));have HBN_:=zq (show Below wa.heap.size wa (w10.setRow gm #[.int .i64 ref,.bool rev,.slice PX3 pn3 px3,.slice SX3 (i+1) sx3,.int .i64 rg])from qab hb_ (by omega) _);rw[<-HP3.out]at HPON;rw[<-HAN.out]at HSON;clear hm_ hf_ hpo_ hso_ hr_ hp_ hb_ HM9 HF9 HPO9 HSO9 HR9 HP9 HB9;go_wp2_with (with_reducible refine qap (o:=⟨none,_,_,_,_,_⟩) rfl 3 _ _ rfl (gm) 4 (.int .i64 rg) rfl rfl 38 #[.int .i64 ref,.bool rev,.slice PX3 pn3 px3,.slice SX3 (i+1) sx3,.int .i64 G] HM10.out (Nat.le_of_ble_eq_true rfl) (by kernel_rfl) rfl #[.int .i64 ref,.bool rev,.slice PX3 pn3 px3,.slice SX3 (i+1) sx3,.int .i64 rg] rfl ?_);go_roundg (k1-1)
 case measure=>have:=HIN.out;omega
 case rel=>exact⟨i+1,PX3,pn3,px3,SX3,sx3,rg,by have:=HIN.out;omega,by have:=HIN.out;omega,by first|go_num|(rw[IntWalk.wrap64_in _ (by have h1_:=HIN.out;have h2_:=HCN.out;omega)];go_num),zq HGS.out.symm,HMN,HFN,HNE9,HPON,HSON,HTN,HPN_,HBN_⟩
end
end Go.Proofs.YtahadmeilajdgaaGreatDoor
