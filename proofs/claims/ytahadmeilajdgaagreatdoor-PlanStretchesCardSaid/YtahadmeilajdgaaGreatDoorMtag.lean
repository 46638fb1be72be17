/-
  Our own text, joined.
-/
import Derived.Test.YtahadmeilajdgaaGreatDoorMtaa
import Derived.Test.YtahadmeilajdgaaGreatDoorMtac
import Derived.BigQuiet
import Derived.IntWalk
import Derived.Deep.RegionWith
import Derived.Sort.Grow
import Derived.Test.YtahadmeilajdgaaGreatDoorMtad
import Derived.Test.YtahadmeilajdgaaGreatDoorMtae
import Derived.Test.YtahadmeilajdgaaGreatDoorMtab
import Derived.Test.YtahadmeilajdgaaGreatDoorRows
import Derived.KernelRfl
import Derived.Deep.DeepCutAuto
import Derived.StillTailTactics
import Derived.Below
import Derived.WalkKit
import Derived.ProofKit
import Derived.OpenShut
import Derived.Deep.Slices
import Derived.Lib.SmallJoins
import Derived.Laws.CopyOwn
import Derived.Deep.OwnRows
import Derived.Laws.BytesArg
import Derived.Lib.ConvBytes
import Derived.WalkSpells
import Derived.WalkLawsBesides
import Derived.Laws.BitsAllLaws
import Derived.Lib.Hide
import Derived.Deep.QuietTactic
import Derived.Deep.RegionLaw
import Derived.ChangeKeysEq
import Derived.Lib.AppendZerosOnto
import Derived.Lib.SliceRun
import Derived.Deep.LoopGhost
namespace Go.Proofs.YtahadmeilajdgaaGreatDoor
set_option maxRecDepth 100000
set_option maxHeartbeats 20000000
section
structure Bd4 where
 edge:Int
 at_:Int
 a:Int
 b:Int
structure Pc5 where
 s:Sn3
 inA:Bool
 inB:Bool
def qfT (s:Sn3):Bool:=decide (0<=s.edge) &&(decide (0<=s.lo) &&(decide (s.lo<s.hi) &&decide (s.hi<=1000000)))
theorem qea {s:Sn3}:qfT s=true↔okN s:=by
 unfold qfT okN;simp only[Bool.and_eq_true,decide_eq_true_eq]
def bdsS (a b:Int)(s:Sn3):List Bd4:=if qfT s=true then[⟨s.edge,s.lo,a,b⟩,⟨s.edge,s.hi,-a,-b⟩]else[]
def bdsL (a b:Int)(l:List Sn3):List Bd4:=l.flatMap (bdsS a b)
theorem bdsL_snoc (a b:Int)(l:List Sn3)(s:Sn3):bdsL a b (l++[s])=bdsL a b l++bdsS a b s:=by
 unfold bdsL;rw[List.flatMap_append];simp
theorem bds_len (a b:Int)(l:List Sn3):(bdsL a b l).length<=2*l.length:=by
 induction l with
 |nil=>exact Nat.le_refl _
 |cons s r ih=>
  unfold bdsL at ih⊢;rw[List.flatMap_cons,List.length_append,List.length_cons];have:(bdsS a b s).length<=2:=by unfold bdsS;split<;>simp
  omega
def befB (x y:Bd4):Bool:=decide (x.edge<y.edge)||(decide (x.edge=y.edge) &&decide (x.at_<y.at_))
theorem qdN {x y:Bd4}:befB x y=true↔x.edge<y.edge\/(x.edge=y.edge/\x.at_<y.at_):=by
 unfold befB;simp
def sumK (f:Bd4->Int):List Bd4->Int
 |[]=>0
 |d::r=>f d+sumK f r
theorem sumK_app (f:Bd4->Int)(l m:List Bd4):sumK f (l++m)=sumK f l+sumK f m:=by
 induction l with
 |nil=>simp[sumK]
 |cons d r ih=>rw[List.cons_append,sumK,sumK,ih];omega
theorem sumK_perm {f:Bd4->Int}{l m:List Bd4}(h:l.Perm m):sumK f l=sumK f m:=by
 induction h with
 |nil=>rfl
 |cons d _ ih=>rw[sumK,sumK,ih]
 |swap d e l=>simp only[sumK];omega
 |trans _ _ h1 h2=>rw[h1,h2]
theorem sumK_zero {f:Bd4->Int}{l:List Bd4}(h: ∀d∈l,f d=0):sumK f l=0:=by
 induction l with
 |nil=>rfl
 |cons d r ih=>rw[sumK,h d (List.mem_cons_self ..),ih fun e he=>h e (List.mem_cons_of_mem _ he)];rfl
def upK (e x:Int)(d:Bd4):Prop:=d.edge<e\/(d.edge=e/\d.at_<=x)
instance (e x : Int) (d : Bd4) : Decidable (upK e x d) := by unfold upK; infer_instance
def upA (e x:Int)(d:Bd4):Int:=if upK e x d then d.a else 0
def upB15 (e x:Int)(d:Bd4):Int:=if upK e x d then d.b else 0
instance (s : Sn3) : Decidable (okN s) := by unfold okN; infer_instance
def cntL (l:List Sn3)(e x:Int):Int:=
 match l with
 |[]=>0
 |s::r=>(if okN s/\hasS s e x=true then 1 else 0)+cntL r e x
theorem qfb (s:Sn3)(r:List Sn3)(e x:Int):cntL (s::r) e x=(if okN s/\hasS s e x=true then 1 else 0)+cntL r e x:=rfl
theorem has_ok {s:Sn3}{e x:Int}(h:hasS s e x=true):okN s:=by
 have:=qaq.1 h;exact⟨by omega,by omega,by omega,by omega⟩
theorem cnt_ge (l:List Sn3)(e x:Int):0<=cntL l e x:=by
 induction l with
 |nil=>exact Int.le_refl _
 |cons s r ih=>rw[qfb];split<;>omega
theorem cnt_pos {l:List Sn3}{e x:Int}:0<cntL l e x↔hasL l e x=true:=by
 induction l with
 |nil=>simp[cntL,hasL]
 |cons s r ih=>
  rw[qbf,Bool.or_eq_true,<-ih];have h0:=cnt_ge r e x;rw[qfb]
  constructor
  ·intro h
   split at h
   ·rename_i h1;exact .inl h1.2
   ·exact .inr (by omega)
  ·rintro(h|h)
   ·rw[if_pos ⟨has_ok h,h⟩];omega
   ·split<;>omega
theorem cnt_dec (l:List Sn3)(e x:Int):decide (0<cntL l e x)=hasL l e x:=by
 rw[Bool.eq_iff_iff,decide_eq_true_eq,cnt_pos]
theorem sum_bds {f:Bd4->Int}{a b:Int}(l:List Sn3)(e x:Int)(g:Int)(h1: ∀s,okN s->f ⟨s.edge,s.lo,a,b⟩+f ⟨s.edge,s.hi,-a,-b⟩=if hasS s e x=true then g else 0):sumK f (bdsL a b l)=g*cntL l e x:=by
 induction l with
 |nil=>simp[bdsL,sumK,cntL]
 |cons s r ih=>
  unfold bdsL at ih⊢;rw[List.flatMap_cons,sumK_app,ih,qfb];unfold bdsS;by_cases hv:qfT s=true
  ·have hk:=qea.1 hv
   rw[if_pos hv];simp only[sumK];have:=h1 s hk;by_cases hh:hasS s e x=true
   ·rw[if_pos hh]at this
    rw[if_pos ⟨hk,hh⟩,Int.mul_add,Int.mul_one];omega
   ·rw[if_neg hh]at this
    rw[if_neg (fun h=>hh h.2),Int.mul_add,Int.mul_zero];omega
  ·rw[if_neg hv,if_neg (fun h=>hv (qea.2 h.1))]
   simp[sumK]
theorem up_span {s:Sn3}(hs:okN s)(e x a b:Int):upA e x ⟨s.edge,s.lo,a,b⟩+upA e x ⟨s.edge,s.hi,-a,-b⟩=(if hasS s e x=true then a else 0)/\upB15 e x ⟨s.edge,s.lo,a,b⟩+upB15 e x ⟨s.edge,s.hi,-a,-b⟩=(if hasS s e x=true then b else 0):=by
 obtain⟨h1,h2,h3,h4⟩:=hs;unfold upA upB15;have hh:hasS s e x=true↔s.edge=e/\s.lo<=x/\x<s.hi:=by rw[qaq];omega
 by_cases h:hasS s e x=true
 ·have:=hh.1 h
  have c1:upK e x ⟨s.edge,s.lo,a,b⟩:=by unfold upK;dsimp only;omega
  have c2: ¬upK e x ⟨s.edge,s.hi,-a,-b⟩:=by unfold upK;dsimp only;omega
  rw[if_pos c1,if_neg c2,if_pos h,if_pos c1,if_neg c2,if_pos h];dsimp only;omega
 ·have h5:=mt hh.2 h
  by_cases h6:s.edge<e\/s.edge=e/\s.hi<=x
  ·have c1:upK e x ⟨s.edge,s.lo,a,b⟩:=by unfold upK;dsimp only;omega
   have c2:upK e x ⟨s.edge,s.hi,-a,-b⟩:=h6;rw[if_pos c1,if_pos c2,if_neg h,if_pos c1,if_pos c2,if_neg h];dsimp only;omega
  ·have c1: ¬upK e x ⟨s.edge,s.lo,a,b⟩:=by unfold upK;dsimp only;omega
   have c2: ¬upK e x ⟨s.edge,s.hi,-a,-b⟩:=h6;rw[if_neg c1,if_neg c2,if_neg h,if_neg c1,if_neg c2,if_neg h];omega
def qa2 (a b:List Sn3):List Bd4:=bdsL 1 0 a++bdsL 0 1 b
theorem sumA_all (a b:List Sn3)(e x:Int):sumK (upA e x) (qa2 a b)=cntL a e x:=by
 unfold qa2;rw[sumK_app,sum_bds a e x 1 (fun s hs=>(up_span hs e x 1 0).1),sum_bds b e x 0 (fun s hs=>(up_span hs e x 0 1).1)];omega
theorem sumB_all (a b:List Sn3)(e x:Int):sumK (upB15 e x) (qa2 a b)=cntL b e x:=by
 unfold qa2;rw[sumK_app,sum_bds a e x 0 (fun s hs=>(up_span hs e x 1 0).2),sum_bds b e x 1 (fun s hs=>(up_span hs e x 0 1).2)];omega
theorem bds_mem {d:Bd4}{a b:Int}{l:List Sn3}(h:d∈bdsL a b l):0<=d.edge/\0<=d.at_/\d.at_<=1000000/\(d.a=a\/d.a= -a)/\(d.b=b\/d.b= -b):=by
 unfold bdsL at h;obtain⟨s,_,h2⟩:=List.mem_flatMap.1 h;unfold bdsS at h2;split at h2
 ·rename_i hv
  obtain⟨k1,k2,k3,k4⟩:=qea.1 hv;simp only[List.mem_cons,List.not_mem_nil,or_false]at h2
  rcases h2 with rfl|rfl
  ·exact⟨k1,k2,by dsimp only;omega,.inl rfl,.inl rfl⟩
  ·exact⟨k1,by dsimp only;omega,k4,.inr rfl,.inr rfl⟩
 ·cases h2
theorem all_mem {d:Bd4}{a b:List Sn3}(h:d∈qa2 a b):0<=d.edge/\0<=d.at_/\d.at_<=1000000/\(-1<=d.a/\d.a<=1)/\(-1<=d.b/\d.b<=1):=by
 rcases List.mem_append.1 h with h|h
 ·have:=bds_mem h;omega
 ·have:=bds_mem h;omega
theorem bds_end {l:List Sn3}{e x:Int}(a b:Int)(h:hasL l e x=true): ∃d∈bdsL a b l,d.edge=e/\x<d.at_:=by
 obtain⟨s,h1,h2⟩:=qbp.1 h;have h3:=qaq.1 h2;refine⟨⟨s.edge,s.hi,-a,-b⟩,List.mem_flatMap.2 ⟨s,h1,?_⟩,h3.2.2.2.1,h3.2.2.2.2.2⟩;unfold bdsS;rw[if_pos (qea.2 (has_ok h2))];simp
theorem all_end {a b:List Sn3}{e x:Int}(h:hasL a e x=true\/hasL b e x=true): ∃d∈qa2 a b,d.edge=e/\x<d.at_:=by
 unfold qa2
 rcases h with h|h
 ·obtain⟨d,h1,h2⟩:=bds_end 1 0 h
  exact⟨d,List.mem_append_left _ h1,h2⟩
 ·obtain⟨d,h1,h2⟩:=bds_end 0 1 h
  exact⟨d,List.mem_append_right _ h1,h2⟩
/-! The sweep. -/
def stepC (pa oa ob:Int)(x:Bd4):List Pc5:=if 0<oa+ob/\pa<x.at_ then[⟨⟨x.edge,pa,x.at_⟩,decide (0<oa),decide (0<ob)⟩]else[]
def qb8 (pa oa ob:Int):List Bd4->List Pc5
 |[]=>[]
 |x::r=>stepC pa oa ob x++qb8 x.at_ (oa+x.a) (ob+x.b) r
structure Swp (cA cB:Int->Int->Int) (pe pa oa ob:Int) (Q:List Bd4):Prop where
 sorted:Q.Pairwise fun x y=>befB y x=false
 ge: ∀d∈Q,pe<d.edge\/(pe=d.edge/\pa<=d.at_)
 num: ∀d∈Q,0<=d.edge/\0<=d.at_/\d.at_<=1000000
 sA: ∀e x,pe<e\/(pe=e/\pa<=x)->oa+sumK (upA e x) Q=cA e x
 sB: ∀e x,pe<e\/(pe=e/\pa<=x)->ob+sumK (upB15 e x) Q=cB e x
 fin: ∀e x,pe<e\/(pe=e/\pa<=x)->0<cA e x+cB e x-> ∃d∈Q,d.edge=e/\x<d.at_
theorem Swp.tail {cA cB:Int->Int->Int}{pe pa oa ob:Int}{d:Bd4}{r:List Bd4}(h:Swp cA cB pe pa oa ob (d::r)):Swp cA cB d.edge d.at_ (oa+d.a) (ob+d.b) r where
 sorted:=(List.pairwise_cons.1 h.sorted).2
 ge:=fun y hy=>by
  have h1:=(List.pairwise_cons.1 h.sorted).1 y hy;have h2: ¬(y.edge<d.edge\/(y.edge=d.edge/\y.at_<d.at_)):=fun h2=>by rw[qdN.2 h2]at h1;cases h1
  omega
 num:=fun y hy=>h.num y (List.mem_cons_of_mem _ hy)
 sA:=fun e x hx=>by
  have h1:=h.ge d (List.mem_cons_self ..);have h2:=h.sA e x (by omega);rw[sumK]at h2;have h3:upA e x d=d.a:=if_pos (by unfold upK;omega);rw[h3]at h2;omega
 sB:=fun e x hx=>by
  have h1:=h.ge d (List.mem_cons_self ..);have h2:=h.sB e x (by omega);rw[sumK]at h2;have h3:upB15 e x d=d.b:=if_pos (by unfold upK;omega);rw[h3]at h2;omega
 fin:=fun e x hx hc=>by
  have h1:=h.ge d (List.mem_cons_self ..);obtain⟨y,hy,h2,h3⟩:=h.fin e x (by omega) hc
  rcases List.mem_cons.1 hy with rfl|hy
  ·omega
  ·exact⟨y,hy,h2,h3⟩
theorem Swp.still {cA cB:Int->Int->Int}{pe pa oa ob:Int}{d:Bd4}{r:List Bd4}(h:Swp cA cB pe pa oa ob (d::r)){e x:Int}(h1:pe<e\/(pe=e/\pa<=x))(h2:e<d.edge\/(e=d.edge/\x<d.at_)):oa=cA e x/\ob=cB e x:=by
 have hz: ∀y∈d::r,¬upK e x y:=fun y hy=>by
  unfold upK
  rcases List.mem_cons.1 hy with rfl|hy
  ·omega
  ·have:=h.tail.ge y hy
   omega
 have hA:=h.sA e x h1;have hB:=h.sB e x h1;rw[sumK_zero (f:=upA e x) fun y hy=>if_neg (hz y hy)]at hA;rw[sumK_zero (f:=upB15 e x) fun y hy=>if_neg (hz y hy)]at hB;omega
theorem Swp.edge {cA cB:Int->Int->Int}{pe pa oa ob:Int}{d:Bd4}{r:List Bd4}(h:Swp cA cB pe pa oa ob (d::r))(ho:0<oa+ob):pe=d.edge:=by
 have h1:=h.ge d (List.mem_cons_self ..);refine Classical.byContradiction fun hne=>?_;obtain⟨h2,h3⟩:=h.still (e:=pe) (x:=pa) (.inr ⟨rfl,Int.le_refl _⟩) (.inl (by omega));obtain⟨y,hy,h4,h5⟩:=h.fin pe pa (.inr ⟨rfl,Int.le_refl _⟩) (by omega)
 rcases List.mem_cons.1 hy with rfl|hy
 ·omega
 ·have:=h.tail.ge y hy
  omega
structure Pcs (cA cB:Int->Int->Int) (out:List Pc5):Prop where
 ok: ∀p∈out,okN p.s/\(p.inA||p.inB)=true/\ ∀x,p.s.lo<=x->x<p.s.hi->p.inA=decide (0<cA p.s.edge x)/\p.inB=decide (0<cB p.s.edge x)
 pair:out.Pairwise fun p q=>p.s.edge<q.s.edge\/(p.s.edge=q.s.edge/\p.s.hi<=q.s.lo)
theorem step_mem {pa oa ob:Int}{d:Bd4}{p:Pc5}(h:p∈stepC pa oa ob d):0<oa+ob/\pa<d.at_/\p=⟨⟨d.edge,pa,d.at_⟩,decide (0<oa),decide (0<ob)⟩:=by
 unfold stepC at h;split at h
 ·rename_i h1
  simp at h;exact⟨h1.1,h1.2,h⟩
 ·cases h
theorem sweep_ok {cA cB:Int->Int->Int}{pe pa oa ob:Int}{Q:List Bd4}(h:Swp cA cB pe pa oa ob Q)(hpa:0<=pa):
  Pcs cA cB (qb8 pa oa ob Q)/\(∀p∈qb8 pa oa ob Q,pe<p.s.edge\/(pe=p.s.edge/\pa<=p.s.lo))/\
  ∀e x,pe<e\/(pe=e/\pa<=x)->0<cA e x+cB e x-> ∃p∈qb8 pa oa ob Q,p.s.edge=e/\p.s.lo<=x/\x<p.s.hi:=by
 induction Q generalizing pe pa oa ob with
 |nil=>
  refine⟨⟨fun p hp=>(by cases hp),.nil⟩,fun p hp=>(by cases hp),fun e x h1 h2=>?_⟩;obtain⟨d,hd,_⟩:=h.fin e x h1 h2
  cases hd
 |cons d r ih=>
  have hd:=h.num d (List.mem_cons_self ..);have hge:=h.ge d (List.mem_cons_self ..);obtain⟨⟨i1,i2⟩,i3,i4⟩:=ih h.tail hd.2.1;unfold qb8;refine⟨⟨fun p hp=>?_,?_⟩,fun p hp=>?_,fun e x h1 h2=>?_⟩
  ·rcases List.mem_append.1 hp with hp|hp
   ·obtain⟨k1,k2,rfl⟩:=step_mem hp
    have k3:=h.edge k1;refine⟨⟨hd.1,hpa,k2,hd.2.2⟩,?_,fun x hx1 hx2=>?_⟩
    ·show(decide (0<oa)||decide (0<ob))=true
     rw[Bool.or_eq_true,decide_eq_true_eq,decide_eq_true_eq];omega
    ·obtain⟨k4,k5⟩:=h.still (e:=d.edge) (x:=x) (.inr ⟨k3,hx1⟩) (.inr ⟨rfl,hx2⟩)
     subst k4 k5;exact⟨rfl,rfl⟩
   ·exact i1 p hp
  ·rw[List.pairwise_append]
   refine⟨?_,i2,fun p hp q hq=>?_⟩
   ·unfold stepC
    split
    ·exact List.pairwise_singleton _ _
    ·exact .nil
   ·obtain⟨k1,k2,rfl⟩:=step_mem hp
    exact i3 q hq
  ·rcases List.mem_append.1 hp with hp|hp
   ·obtain⟨k1,k2,rfl⟩:=step_mem hp
    exact .inr ⟨h.edge k1,Int.le_refl _⟩
   ·have:=i3 p hp
    omega
  ·by_cases h3:d.edge<e\/(d.edge=e/\d.at_<=x)
   ·obtain⟨p,hp,k⟩:=i4 e x h3 h2
    exact⟨p,List.mem_append_right _ hp,k⟩
   ·obtain⟨k1,k2⟩:=h.still (e:=e) (x:=x) h1 (by omega)
    obtain⟨y,hy,k3,k4⟩:=h.fin e x h1 h2;have k5:=h.edge (by omega);have k6:e=d.edge:=by
     rcases List.mem_cons.1 hy with rfl|hy
     ·exact k3.symm
     ·have:=h.tail.ge y hy
      omega
    refine⟨⟨⟨d.edge,pa,d.at_⟩,decide (0<oa),decide (0<ob)⟩,List.mem_append_left _ ?_,k6.symm,by dsimp only;omega,by dsimp only;omega⟩;unfold stepC;rw[if_pos (by omega)];simp
def qbJ (L:List Bd4):List Pc5:=qb8 0 0 0 L
theorem qd2 {a b:List Sn3}{L:List Bd4}(hp:L.Perm (qa2 a b))(hs:L.Pairwise fun x y=>befB y x=false):
  Pcs (cntL a) (cntL b) (qbJ L)/\ ∀e x,(hasL a e x=true\/hasL b e x=true)-> ∃p∈qbJ L,p.s.edge=e/\p.s.lo<=x/\x<p.s.hi:=by
 have hm: ∀ {d:Bd4},d∈L->d∈qa2 a b:=fun h=>hp.mem_iff.1 h;have hc: ∀e x,0<cntL a e x+cntL b e x↔(hasL a e x=true\/hasL b e x=true):=fun e x=>by
  rw[<-cnt_pos,<-cnt_pos];have:=cnt_ge a e x;have:=cnt_ge b e x;omega
 have H:Swp (cntL a) (cntL b) (-1) 0 0 0 L:= {
  sorted:=hs
  ge:=fun d hd=> .inl (by have:=all_mem (hm hd);omega)
  num:=fun d hd=>by have:=all_mem (hm hd);omega
  sA:=fun e x _=>by rw[sumK_perm hp,sumA_all];omega
  sB:=fun e x _=>by rw[sumK_perm hp,sumB_all];omega
  fin:=fun e x _ h=>by
   obtain⟨d,h1,h2⟩:=all_end ((hc e x).1 h);exact⟨d,hp.mem_iff.2 h1,h2⟩}
 obtain⟨h1,_,h3⟩:=sweep_ok H (Int.le_refl _);refine⟨h1,fun e x h=>h3 e x (.inl ?_) ((hc e x).2 h)⟩;obtain⟨d,hd,h4,_⟩:=all_end h;have:=all_mem hd;omega
theorem qer {a b:List Sn3}{L:List Bd4}(hp:L.Perm (qa2 a b))(hs:L.Pairwise fun x y=>befB y x=false){p:Pc5}(h:p∈qbJ L){x:Int}(h1:p.s.lo<=x)(h2:x<p.s.hi):p.inA=hasL a p.s.edge x/\p.inB=hasL b p.s.edge x:=by
 have:=((qd2 hp hs).1.ok p h).2.2 x h1 h2;rw[cnt_dec,cnt_dec]at this;exact this
theorem sweep_len (pa oa ob:Int)(L:List Bd4):(qb8 pa oa ob L).length<=L.length:=by
 induction L generalizing pa oa ob with
 |nil=>exact Nat.le_refl _
 |cons d r ih=>
  unfold qb8;rw[List.length_append,List.length_cons];have:=ih d.at_ (oa+d.a) (ob+d.b);have:(stepC pa oa ob d).length<=1:=by unfold stepC;split<;>simp
  omega
/-! What is kept, glued. -/
def joinL (l:List Sn3)(s:Sn3):List Sn3:=
 match l.getLast? with
 |none=>[s]
 |some t=>if t.edge=s.edge/\t.hi=s.lo then l.dropLast++[⟨t.edge,t.lo,s.hi⟩]else l++[s]
theorem joinL_nil (s:Sn3):joinL [] s=[s]:=rfl
theorem qdt (l:List Sn3)(t s:Sn3):joinL (l++[t]) s=if t.edge=s.edge/\t.hi=s.lo then l++[⟨t.edge,t.lo,s.hi⟩]else l++[t]++[s]:=by
 unfold joinL;rw[List.getLast?_concat,List.dropLast_concat]
def foldJ (k:Bool->Bool->Bool):List Sn3->List Pc5->List Sn3
 |out,[]=>out
 |out,p::r=>foldJ k (if k p.inA p.inB=true then joinL out p.s else out) r
theorem foldJ_snoc (k:Bool->Bool->Bool)(out:List Sn3)(l:List Pc5)(p:Pc5):foldJ k out (l++[p])=if k p.inA p.inB=true then joinL (foldJ k out l) p.s else foldJ k out l:=by
 induction l generalizing out with
 |nil=>rfl
 |cons q r ih=>rw[List.cons_append,foldJ,ih,foldJ]
theorem qc1 (l:List Sn3):l=[]\/ ∃m t,l=m++[t]:=by
 cases h:l.getLast? with
 |none=>exact .inl (List.getLast?_eq_none_iff.1 h)
 |some t=>exact .inr (by obtain⟨m,hm⟩:=List.getLast?_eq_some_iff.1 h;exact⟨m,t,hm⟩)
theorem join_len (l:List Sn3)(s:Sn3):(joinL l s).length<=l.length+1:=by
 rcases qc1 l with rfl|⟨m,t,rfl⟩
 ·simp[joinL_nil]
 ·rw[qdt]
  split<;>simp
theorem foldJ_len (k:Bool->Bool->Bool)(out:List Sn3)(l:List Pc5):(foldJ k out l).length<=out.length+l.length:=by
 induction l generalizing out with
 |nil=>exact Nat.le_refl _
 |cons p r ih=>
  unfold foldJ;have h2:=join_len out p.s;rw[List.length_cons];by_cases h3:k p.inA p.inB=true
  ·rw[if_pos h3]
   have:=ih (joinL out p.s);omega
  ·rw[if_neg h3]
   have:=ih out;omega
def endsB (l:List Sn3)(s:Sn3):Prop:= ∀t∈l,t.edge<s.edge\/(t.edge=s.edge/\t.hi<=s.lo)
theorem join_norm {l:List Sn3}{s:Sn3}(hl:normP l)(hs:okN s)(he:endsB l s):normP (joinL l s)/\(∀e x,hasL (joinL l s) e x=(hasL l e x||hasS s e x))/\ ∀u:Sn3,endsB l u->(s.edge<u.edge\/(s.edge=u.edge/\s.hi<=u.lo))->endsB (joinL l s) u:=by
 rcases qc1 l with rfl|⟨m,t,rfl⟩
 ·rw[joinL_nil]
  refine⟨⟨fun u hu=>by simp at hu;subst hu;exact hs,List.pairwise_singleton _ _⟩,fun e x=>by simp[hasL],fun u _ hu v hv=>by simp at hv;subst hv;exact hu⟩
 ·rw[qdt]
  have ht:=hl.1 t (by simp);have het:=he t (by simp);have hpw:=hl.2;rw[List.pairwise_append]at hpw;by_cases hc:t.edge=s.edge/\t.hi=s.lo
  ·rw[if_pos hc]
   obtain⟨t1,t2,t3,t4⟩:=ht;obtain⟨s1,s2,s3,s4⟩:=hs;refine⟨⟨fun u hu=>?_,?_⟩,fun e x=>?_,fun u hu hsu v hv=>?_⟩
   ·rcases List.mem_append.1 hu with hu|hu
    ·exact hl.1 u (List.mem_append_left _ hu)
    ·simp at hu
     subst hu;exact⟨t1,t2,by dsimp only;omega,s4⟩
   ·rw[List.pairwise_append]
    refine⟨hpw.1,List.pairwise_singleton _ _,fun u hu v hv=>?_⟩;simp at hv;subst hv;exact hpw.2.2 u hu t (by simp)
   ·rw[qdr,qdr,Bool.or_assoc]
    congr 1
    rw[Bool.eq_iff_iff,Bool.or_eq_true];simp only[hasL,List.any_cons,List.any_nil,Bool.or_false];rw[qaq,qaq,qaq];dsimp only;omega
   ·rcases List.mem_append.1 hv with hv|hv
    ·exact hu v (List.mem_append_left _ hv)
    ·simp at hv
     subst hv;dsimp only;omega
  ·rw[if_neg hc]
   refine⟨⟨fun u hu=>?_,?_⟩,fun e x=>?_,fun u hu hsu v hv=>?_⟩
   ·rcases List.mem_append.1 hu with hu|hu
    ·exact hl.1 u hu
    ·simp at hu
     subst hu;exact hs
   ·rw[List.pairwise_append]
    refine⟨hl.2,List.pairwise_singleton _ _,fun u hu v hv=>?_⟩;simp only[List.mem_singleton]at hv;subst hv;unfold aheadN
    rcases List.mem_append.1 hu with hu|hu
    ·have h1:=hpw.2.2 u hu t (by simp)
     unfold aheadN at h1;have:=ht.2.2.1;omega
    ·simp at hu
     subst hu;omega
   ·rw[qdr]
    simp[hasL]
   ·rcases List.mem_append.1 hv with hv|hv
    ·exact hu v hv
    ·simp at hv
     subst hv;exact hsu
theorem foldJ_norm {k:Bool->Bool->Bool}{l:List Pc5}{out:List Sn3}(ho:normP out)(hl: ∀p∈l,okN p.s)(hp:l.Pairwise fun p q=>p.s.edge<q.s.edge\/(p.s.edge=q.s.edge/\p.s.hi<=q.s.lo))(he: ∀p∈l,endsB out p.s):
  normP (foldJ k out l)/\ ∀e x,hasL (foldJ k out l) e x=(hasL out e x||l.any fun p=>k p.inA p.inB &&hasS p.s e x):=by
 induction l generalizing out with
 |nil=>exact⟨ho,fun e x=>by simp[foldJ]⟩
 |cons p r ih=>
  unfold foldJ;rw[List.pairwise_cons]at hp;have hpk:=hl p (List.mem_cons_self ..);by_cases hk:k p.inA p.inB=true
  ·rw[if_pos hk]
   obtain⟨j1,j2,j3⟩:=join_norm ho hpk (he p (List.mem_cons_self ..));obtain⟨i1,i2⟩:=ih j1 (fun q hq=>hl q (List.mem_cons_of_mem _ hq)) hp.2 (fun q hq=>j3 q.s (he q (List.mem_cons_of_mem _ hq)) (hp.1 q hq));refine⟨i1,fun e x=>?_⟩;rw[i2,j2,List.any_cons,hk,Bool.true_and,Bool.or_assoc]
  ·rw[if_neg hk]
   obtain⟨i1,i2⟩:=ih ho (fun q hq=>hl q (List.mem_cons_of_mem _ hq)) hp.2 (fun q hq=>he q (List.mem_cons_of_mem _ hq));refine⟨i1,fun e x=>?_⟩;have hk2:k p.inA p.inB=false:=by simpa using hk
   rw[i2,List.any_cons,hk2];simp
theorem collect_form {a b:List Sn3}{L:List Bd4}(hp:L.Perm (qa2 a b))(hs:L.Pairwise fun x y=>befB y x=false)(k:Bool->Bool->Bool)(K:Kp3)(hk: ∀x y,(x||y)=true->k x y=wantB K x y):foldJ k [] (qbJ L)=formL a b K:=by
 obtain⟨⟨h1,h2⟩,h3⟩:=qd2 hp hs;obtain⟨i1,i2⟩:=foldJ_norm (k:=k) (l:=qbJ L) qek (fun p hp=>(h1 p hp).1) h2 (fun p _ t ht=>by cases ht);refine form_uniq i1 fun e x=>?_;rw[i2,Bool.eq_iff_iff];simp only[hasL,List.any_nil,Bool.false_or];rw[List.any_eq_true]
 constructor
 ·rintro⟨p,hpm,hq⟩
  rw[Bool.and_eq_true]at hq;have hx:=qaq.1 hq.2;obtain⟨k1,k2⟩:=qer hp hs hpm hx.2.2.2.2.1 hx.2.2.2.2.2;rw[hx.2.2.2.1]at k1 k2;have:=hk _ _ (h1 p hpm).2.1;rw[hq.1,k1,k2]at this;exact this.symm
 ·intro h
  have hor:hasL a e x=true\/hasL b e x=true:=by
   cases h4:hasL a e x with
   |true=>exact .inl rfl
   |false=>
    cases h5:hasL b e x with
    |true=>exact .inr rfl
    |false=>
     unfold hasL at h4 h5;rw[h4,h5,qfW]at h
     cases h
  obtain⟨p,hpm,e1,e2,e3⟩:=h3 e x hor;obtain⟨k1,k2⟩:=qer hp hs hpm e2 e3;rw[e1]at k1 k2;refine⟨p,hpm,?_⟩;rw[Bool.and_eq_true];have hok:=(h1 p hpm).1;refine⟨?_,qaq.2 ⟨hok.1,hok.2.1,hok.2.2.2,e1,e2,e3⟩⟩;rw[hk _ _ (h1 p hpm).2.1,k1,k2];exact h
theorem pieces_total {a:List Sn3}{L:List Bd4}(hp:L.Perm (qa2 a []))(hs:L.Pairwise fun x y=>befB y x=false):sumN ((qbJ L).map (·.s))=qcu a:=by
 obtain⟨⟨h1,h2⟩,h3⟩:=qd2 hp hs;refine sum_same ⟨?_,?_⟩ (qel (qbi a)) fun e x=>?_
 ·intro s hs2
  obtain⟨p,hpm,rfl⟩:=List.mem_map.1 hs2;exact(h1 p hpm).1
 ·rw[List.pairwise_map]
  refine h2.imp fun {p q} hpq e x hh=>?_;have k1:=qaq.1 hh.1;have k2:=qaq.1 hh.2;omega
 ·rw[qcs,Bool.eq_iff_iff,qbp]
  constructor
  ·rintro⟨s,hs2,hh⟩
   obtain⟨p,hpm,rfl⟩:=List.mem_map.1 hs2;have hx:=qaq.1 hh;obtain⟨k1,k2⟩:=qer hp hs hpm hx.2.2.2.2.1 hx.2.2.2.2.2;have:=(h1 p hpm).2.1;rw[k1,k2,hx.2.2.2.1]at this
   simpa[hasL]using this
  ·intro h
   obtain⟨p,hpm,e1,e2,e3⟩:=h3 e x (.inl h);have hok:=(h1 p hpm).1;exact⟨p.s,List.mem_map.2 ⟨p,hpm,rfl⟩,qaq.2 ⟨hok.1,hok.2.1,hok.2.2.2,e1,e2,e3⟩⟩
end
section
open Go.RowKit
open Go.Great
theorem onan15 (x:Int)(w:World):
  Calls Tryz.prog 233 #[.int .i64 x] w fun e w'=>e= .returned (.bool false)/\w=w':=by
 have hx:(x !=x)=false:=by simp
 go_enter Tryz.func233,Tryz.ntmps233;go_wp2;go_ret
 exact⟨rfl,rfl⟩
def qeF (a b:Int):Int:=if a<b then -1 else if b<a then 1 else 0
theorem ocmp15 (x y:Int)(w:World):
  Calls Tryz.prog 201 #[.int .i64 x,.int .i64 y] w fun e w'=>e= .returned (.int .i64 (qeF x y))/\w=w':=by
 have H:=zq (fun z=>onan15 z w);unfold qeF
 rcases Int.lt_trichotomy x y with h|h|h
 ·have h2: ¬y<x:=by omega
  rw[if_pos h];go_enter Tryz.func201,Tryz.ntmps201;go_wp2_with fail;refine(H.out _).mono ?_;rintro e w' ⟨rfl,rfl⟩;go_wp2_with fail;refine(H.out _).mono ?_;rintro e w' ⟨rfl,rfl⟩;go_wp2;go_ret
  exact⟨rfl,rfl⟩
 ·subst h
  have h2: ¬x<x:=by omega
  rw[if_neg h2,if_neg h2];go_enter Tryz.func201,Tryz.ntmps201;go_wp2_with fail;refine(H.out _).mono ?_;rintro e w' ⟨rfl,rfl⟩;go_wp2_with fail;refine(H.out _).mono ?_;rintro e w' ⟨rfl,rfl⟩;go_wp2;go_ret
  exact⟨rfl,rfl⟩
 ·have h2: ¬x<y:=by omega
  rw[if_neg h2,if_pos h];go_enter Tryz.func201,Tryz.ntmps201;go_wp2_with fail;refine(H.out _).mono ?_;rintro e w' ⟨rfl,rfl⟩;go_wp2_with fail;refine(H.out _).mono ?_;rintro e w' ⟨rfl,rfl⟩;go_wp2;go_ret
  exact⟨rfl,rfl⟩
theorem oor15 (b:Nat)(x y:Int)(w:World)(h:Has w b 3 #[.int .i64 x,.int .i64 y]):
  Calls Tryz.prog 200 #[.slice (some ⟨b,0,none⟩) 2 2] w fun e w'=>e= .returned (.int .i64 (if x=0 then y else x))/\w=w':=by
 have c0:w.cell? ⟨b,0,none⟩=some (.int .i64 x):=h.cell 0;have c1:w.cell? ⟨b,1,none⟩=some (.int .i64 y):=h.cell 1;obtain⟨R,hR⟩:=geZ ((if x=0 then y else x));have HR:=zq hR;rw[hR];clear hR h;go_enter Tryz.func200,Tryz.ntmps200;go_wp2;go_loopg [8] 2 (fun kk v wl=> ∃j:Nat,j<=2/\2-j<=kk/\v= .int .i64 j/\Hid (0<j->x=0)/\Hid (1<j->y=0)/\w=wl)
 case atStart=>exact⟨0,by omega,by omega,rfl,zq fun h=>absurd h (by omega),zq fun h=>absurd h (by omega),rfl⟩
 obtain⟨j,hj,hjk,rfl,HX,HY,rfl⟩:=hrel
 rcases(show j=0\/j=1\/j=2 by omega)with rfl|rfl|rfl
 ·by_cases hx:x=0
  ·subst hx
   have z0:((0:Int) !=0)=false:=by simp
   go_wp2;go_roundg (gk-1)
   case measure=>omega
   case rel=>exact⟨1,by omega,by omega,by go_num,zq fun _=>(by first|rfl|trivial),zq fun h=>absurd h (by omega),rfl⟩
  ·have z0:(x !=0)=true:=by simp[hx]
   have HF:Hid (R=x):=zq (by rw[<-HR.out,if_neg hx]);go_wp2;go_ret
   exact⟨by rw[HF.out];rfl,rfl⟩
 ·have hx:=HX.out (by omega)
  by_cases hy:y=0
  ·subst hy
   have z0:((0:Int) !=0)=false:=by simp
   have HX2:=zq hx;clear hx;go_wp2;go_roundg (gk-1)
   case measure=>omega
   case rel=>exact⟨2,by omega,by omega,by go_num,zq fun _=>HX2.out,zq fun _=>(by first|rfl|trivial),rfl⟩
  ·have z0:(y !=0)=true:=by simp[hy]
   have HF:Hid (R=y):=zq (by rw[<-HR.out,if_pos hx]);clear hx;go_wp2;go_ret
   exact⟨by rw[HF.out];rfl,rfl⟩
 ·have HF:Hid (R=0):=zq (by rw[<-HR.out,if_pos (HX.out (by omega)),HY.out (by omega)])
  go_wp2;go_ret
  exact⟨by rw[HF.out];rfl,rfl⟩
end
section
open Go.RowKit
open Go.Great
theorem osis_any (s:Sn3)(w:World):
  Calls Tryz.prog 197 #[.agg (snA s)] w fun e w'=>e= .returned (.bool (qfT s))/\Below w.heap.size w w':=by
 obtain⟨wa,hwa,hbwa,HWA,HBWA,h0⟩:=bx1Z w 119 (snA s);have c0:wa.cell? ⟨w.heap.size,0,none⟩=some (.int .i64 s.edge):=h0.cell 0;have c1:wa.cell? ⟨w.heap.size,1,none⟩=some (.int .i64 s.lo):=h0.cell 1;have c2:wa.cell? ⟨w.heap.size,2,none⟩=some (.int .i64 s.hi):=h0.cell 2;unfold qfT;clear hwa hbwa h0;obtain⟨se,sl,sh⟩:=s;unfold snA at*;dsimp only at*;by_cases y0:0<=se;rotate_left
 ·rw[decide_eq_false y0,Bool.false_and]
  go_enter Tryz.func197,Tryz.ntmps197;go_upto_region 1 with fail;rw[HWA.out];clear HWA;go_wp2;go_ret
  exact⟨by first|rfl|simp,HBWA.out⟩
 rw[decide_eq_true y0,Bool.true_and];by_cases y1:0<=sl;rotate_left
 ·rw[decide_eq_false y1,Bool.false_and]
  go_enter Tryz.func197,Tryz.ntmps197;go_upto_region 1 with fail;rw[HWA.out];clear HWA;go_wp2;go_ret
  exact⟨by first|rfl|simp,HBWA.out⟩
 rw[decide_eq_true y1,Bool.true_and];by_cases y2:sl<sh;rotate_left
 ·rw[decide_eq_false y2,Bool.false_and]
  go_enter Tryz.func197,Tryz.ntmps197;go_upto_region 1 with fail;rw[HWA.out];clear HWA;go_wp2;go_ret
  exact⟨by first|rfl|simp,HBWA.out⟩
 rw[decide_eq_true y2,Bool.true_and];by_cases y3:sh<=1000000;rotate_left
 ·rw[decide_eq_false y3]
  go_enter Tryz.func197,Tryz.ntmps197;go_upto_region 1 with fail;rw[HWA.out];clear HWA;go_wp2;go_ret
  exact⟨by first|rfl|simp,HBWA.out⟩
 rw[decide_eq_true y3];go_enter Tryz.func197,Tryz.ntmps197;go_upto_region 1 with fail;rw[HWA.out];clear HWA;go_wp2;go_ret
 exact⟨by first|rfl|simp,HBWA.out⟩
def noLen (n:Int):Bool:=decide (n<1)||decide (1000000<n)
theorem osnl_any (n:Int)(w:World):
  Calls Tryz.prog 147 #[.int .i64 n] w fun e w'=>e= .returned (.bool (noLen n))/\w=w':=by
 unfold noLen;by_cases h1:n<1
 ·rw[decide_eq_true h1,Bool.true_or]
  go_enter Tryz.func147,Tryz.ntmps147;go_wp2;go_ret
  exact⟨by first|rfl|simp,rfl⟩
 rw[decide_eq_false h1,Bool.false_or];by_cases h2:1000000<n
 ·rw[decide_eq_true h2]
  go_enter Tryz.func147,Tryz.ntmps147;go_wp2;go_ret
  exact⟨by first|rfl|simp,rfl⟩
 ·rw[decide_eq_false h2]
  go_enter Tryz.func147,Tryz.ntmps147;go_wp2;go_ret
  exact⟨by first|rfl|simp,rfl⟩
def secN (s:St3)(n fr tz:Int):Sn3:=if s.rev=true then⟨s.edge,n-min tz n,n-max fr 0⟩else⟨s.edge,max fr 0,min tz n⟩
theorem ossec_any (s:St3)(n fr tz:Int)(w:World)(hn:0<=n/\n<=1000000)(hf: -1000000000<=fr/\fr<=1000000000)(ht: -1000000000<=tz/\tz<=1000000000):
  Calls Tryz.prog 148 #[.agg (stA13 s),.int .i64 n,.int .i64 fr,.int .i64 tz] w fun e w'=>e= .returned (.agg (snA (secN s n fr tz)))/\Below w.heap.size w w':=by
 obtain⟨wa,hwa,hbwa,HWA,HBWA,h0,h1⟩:=bx2Z w 30 (stA13 s) 119 #[.int .i64 0,.int .i64 0,.int .i64 0];have c0:wa.cell? ⟨w.heap.size,0,none⟩=some (.int .i64 s.edge):=h0.cell 0;have c1:wa.cell? ⟨w.heap.size,1,none⟩=some (.bool s.rev):=h0.cell 1;have HZ:=zq h1;have hb_:=hbwa;have HBND:=zq (show 0<=n/\n<=1000000/\ -1000000000<=fr/\fr<=1000000000/\ -1000000000<=tz/\tz<=1000000000 from⟨hn.1,hn.2,hf.1,hf.2,ht.1,ht.2⟩);clear hwa hbwa h0 h1 hn hf ht hb_;obtain⟨e,r⟩:=s;unfold stA13 at*;unfold secN snA;dsimp only at*;by_cases h1:0<=fr
 ·rw[show max fr 0=fr by omega]
  by_cases h2:tz<=n
  ·rw[show min tz n=tz by omega]
   have r1:wrap64 (n-tz)=n-tz:=IntWalk.wrap64_in _ (by have:=HBND.out;omega);have r2:wrap64 (n-fr)=n-fr:=IntWalk.wrap64_in _ (by have:=HBND.out;omega)
   cases r with
   |false=>
    rw[if_neg (by decide)];dsimp only;have HR:=zq (qaa HZ.out #[.int .i64 e,.int .i64 (fr),.int .i64 (tz)]);have HBF:=zq (qab (g:=w.heap.size+1) HBWA.out (by omega) #[.int .i64 e,.int .i64 (fr),.int .i64 (tz)]);go_enter Tryz.func148,Tryz.ntmps148;go_upto_region 1 with fail;rw[HWA.out];clear HWA HBWA;go_wp2_with (with_reducible refine stZ #[.int .i64 e,.int .i64 (fr),.int .i64 (tz)] HZ.out ?_);refine roZ HR.out ?_;exact⟨rfl,HBF.out⟩
   |true=>
    rw[if_pos rfl];dsimp only;have HR:=zq (qaa HZ.out #[.int .i64 e,.int .i64 (n-tz),.int .i64 (n-fr)]);have HBF:=zq (qab (g:=w.heap.size+1) HBWA.out (by omega) #[.int .i64 e,.int .i64 (n-tz),.int .i64 (n-fr)]);go_enter Tryz.func148,Tryz.ntmps148;go_upto_region 1 with fail;rw[HWA.out];clear HWA HBWA;go_wp2_with (with_reducible refine stZ #[.int .i64 e,.int .i64 (n-tz),.int .i64 (n-fr)] HZ.out ?_);refine roZ HR.out ?_;exact⟨rfl,HBF.out⟩
  ·have h2':n<tz:=by omega
   rw[show min tz n=n by omega];have r1:wrap64 (n-n)=n-n:=IntWalk.wrap64_in _ (by have:=HBND.out;omega);have r2:wrap64 (n-fr)=n-fr:=IntWalk.wrap64_in _ (by have:=HBND.out;omega)
   cases r with
   |false=>
    rw[if_neg (by decide)];dsimp only;simp only[Int.sub_self]at*;have HR:=zq (qaa HZ.out #[.int .i64 e,.int .i64 (fr),.int .i64 (n)]);have HBF:=zq (qab (g:=w.heap.size+1) HBWA.out (by omega) #[.int .i64 e,.int .i64 (fr),.int .i64 (n)]);go_enter Tryz.func148,Tryz.ntmps148;go_upto_region 1 with fail;rw[HWA.out];clear HWA HBWA;go_wp2_with (with_reducible refine stZ #[.int .i64 e,.int .i64 (fr),.int .i64 (n)] HZ.out ?_);refine roZ HR.out ?_;exact⟨rfl,HBF.out⟩
   |true=>
    rw[if_pos rfl];dsimp only;simp only[Int.sub_self]at*;have HR:=zq (qaa HZ.out #[.int .i64 e,.int .i64 (0),.int .i64 (n-fr)]);have HBF:=zq (qab (g:=w.heap.size+1) HBWA.out (by omega) #[.int .i64 e,.int .i64 (0),.int .i64 (n-fr)]);go_enter Tryz.func148,Tryz.ntmps148;go_upto_region 1 with fail;rw[HWA.out];clear HWA HBWA;go_wp2_with (with_reducible refine stZ #[.int .i64 e,.int .i64 (0),.int .i64 (n-fr)] HZ.out ?_);refine roZ HR.out ?_;exact⟨rfl,HBF.out⟩
 ·have h1':fr<0:=by omega
  rw[show max fr 0=0 by omega];by_cases h2:tz<=n
  ·rw[show min tz n=tz by omega]
   have r1:wrap64 (n-tz)=n-tz:=IntWalk.wrap64_in _ (by have:=HBND.out;omega);have r2:wrap64 (n-0)=n-0:=IntWalk.wrap64_in _ (by have:=HBND.out;omega)
   cases r with
   |false=>
    rw[if_neg (by decide)];dsimp only;simp only[Int.sub_zero]at*;have HR:=zq (qaa HZ.out #[.int .i64 e,.int .i64 (0),.int .i64 (tz)]);have HBF:=zq (qab (g:=w.heap.size+1) HBWA.out (by omega) #[.int .i64 e,.int .i64 (0),.int .i64 (tz)]);go_enter Tryz.func148,Tryz.ntmps148;go_upto_region 1 with fail;rw[HWA.out];clear HWA HBWA;go_wp2_with (with_reducible refine stZ #[.int .i64 e,.int .i64 (0),.int .i64 (tz)] HZ.out ?_);refine roZ HR.out ?_;exact⟨rfl,HBF.out⟩
   |true=>
    rw[if_pos rfl];dsimp only;simp only[Int.sub_zero]at*;have HR:=zq (qaa HZ.out #[.int .i64 e,.int .i64 (n-tz),.int .i64 (n)]);have HBF:=zq (qab (g:=w.heap.size+1) HBWA.out (by omega) #[.int .i64 e,.int .i64 (n-tz),.int .i64 (n)]);go_enter Tryz.func148,Tryz.ntmps148;go_upto_region 1 with fail;rw[HWA.out];clear HWA HBWA;go_wp2_with (with_reducible refine stZ #[.int .i64 e,.int .i64 (n-tz),.int .i64 (n)] HZ.out ?_);refine roZ HR.out ?_;exact⟨rfl,HBF.out⟩
  ·have h2':n<tz:=by omega
   rw[show min tz n=n by omega];have r1:wrap64 (n-n)=n-n:=IntWalk.wrap64_in _ (by have:=HBND.out;omega);have r2:wrap64 (n-0)=n-0:=IntWalk.wrap64_in _ (by have:=HBND.out;omega)
   cases r with
   |false=>
    rw[if_neg (by decide)];dsimp only;simp only[Int.sub_self]at*;simp only[Int.sub_zero]at*;have HR:=zq (qaa HZ.out #[.int .i64 e,.int .i64 (0),.int .i64 (n)]);have HBF:=zq (qab (g:=w.heap.size+1) HBWA.out (by omega) #[.int .i64 e,.int .i64 (0),.int .i64 (n)]);go_enter Tryz.func148,Tryz.ntmps148;go_upto_region 1 with fail;rw[HWA.out];clear HWA HBWA;go_wp2_with (with_reducible refine stZ #[.int .i64 e,.int .i64 (0),.int .i64 (n)] HZ.out ?_);refine roZ HR.out ?_;exact⟨rfl,HBF.out⟩
   |true=>
    rw[if_pos rfl];dsimp only;simp only[Int.sub_self]at*;simp only[Int.sub_zero]at*;have HR:=zq (qaa HZ.out #[.int .i64 e,.int .i64 (0),.int .i64 (n)]);have HBF:=zq (qab (g:=w.heap.size+1) HBWA.out (by omega) #[.int .i64 e,.int .i64 (0),.int .i64 (n)]);go_enter Tryz.func148,Tryz.ntmps148;go_upto_region 1 with fail;rw[HWA.out];clear HWA HBWA;go_wp2_with (with_reducible refine stZ #[.int .i64 e,.int .i64 (0),.int .i64 (n)] HZ.out ?_);refine roZ HR.out ?_;exact⟨rfl,HBF.out⟩
theorem oskU (x y:Bool)(w:World):
  Calls Tryz.prog 219 #[.bool x,.bool y] w fun e w'=>e= .returned (.bool (x||y))/\w=w':=by
 cases x<;>cases y
 all_goals
  go_enter Tryz.func219,Tryz.ntmps219;go_wp2;go_ret
  exact⟨rfl,rfl⟩
def bdA (d:Bd4):Array Value:=#[.int .i64 d.edge,.int .i64 d.at_,.int .i64 d.a,.int .i64 d.b]
def bdC (d:Bd4):List Value:=[.int .i64 d.edge,.int .i64 d.at_,.int .i64 d.a,.int .i64 d.b]
def cmpBd (x y:Bd4):Int:=if qeF x.edge y.edge=0 then qeF x.at_ y.at_ else qeF x.edge y.edge
def GrW (w w':World):Prop:= ∃q os,w'=Go.Sort.grow (w.drewN q) os
theorem GrW.refl (w:World):GrW w w:=⟨0,#[],by simp[Go.Sort.grow,World.drewN]⟩
theorem GrW.alloc {w w':World}(h:GrW w w')(o:Obj):GrW w (w'.alloc o):=by
 obtain⟨q,os,rfl⟩:=h;exact⟨q,os++ #[o],by rw[Go.Sort.alloc_eq_grow,Go.Sort.grow_grow]⟩
theorem GrW.drew {w w':World}(h:GrW w w'):GrW w w'.drew:=by
 obtain⟨q,os,rfl⟩:=h;exact⟨q+1,os,by rw[Go.Sort.drew_grow];rfl⟩
theorem oscmp_any (x y:Bd4)(w:World):
  Calls Tryz.prog 158 #[.agg (bdA x),.agg (bdA y)] w fun e w'=>e= .returned (.int .i64 (cmpBd x y))/\GrW w w':=by
 obtain⟨wa,hwa,hbwa,HWA,HBWA,h0,h1⟩:=bx2Z w 209 (bdA x) 209 (bdA y);have HG:Hid (GrW w wa):=zq (by rw[<-hwa];exact((GrW.refl w).alloc _).alloc _);have c0:wa.cell? ⟨w.heap.size,0,none⟩=some (.int .i64 x.edge):=h0.cell 0;have c1:wa.cell? ⟨w.heap.size,1,none⟩=some (.int .i64 x.at_):=h0.cell 1;have d0:wa.cell? ⟨w.heap.size+1,0,none⟩=some (.int .i64 y.edge):=h1.cell 0;have d1:wa.cell? ⟨w.heap.size+1,1,none⟩=some (.int .i64 y.at_):=h1.cell 1;have h0_:=h0;have h1_:=h1;clear hwa hbwa h0 h1 HBWA;obtain⟨x1,x2,x3,x4⟩:=x;obtain⟨y1,y2,y3,y4⟩:=y;unfold bdA at*;unfold cmpBd;dsimp only at*;have H1:=zq (fun W=>ocmp15 x1 y1 W);have H2:=zq (fun W=>ocmp15 x2 y2 W);generalize qeF x1 y1=p at*;generalize qeF x2 y2=q at*;have HO:=zq (fun b W h=>oor15 b p q W h);generalize (if p=0 then q else p)=R at*;go_enter Tryz.func158,Tryz.ntmps158;go_upto_region 1 with fail;rw[HWA.out];clear HWA;have HA0:=zq h0_;have HA1:=zq h1_;clear c0 c1 d0 d1 h0_ h1_;refine wp_region_held_drew (S:=(fun W_=>(Has W_ (w.heap.size) 209 #[.int .i64 x1,.int .i64 x2,.int .i64 x3,.int .i64 x4])/\(Has W_ (w.heap.size+1) 209 #[.int .i64 y1,.int .i64 y2,.int .i64 y3,.int .i64 y4])/\(GrW w W_))) (by kernel_rfl) ?_ (fun hHeld=>?_)
 ·exact⟨HA0.out.draw,HA1.out.draw,HG.out.drew⟩
 refine tkZ 0 5 (h:=?_);simp only[lyZ];refine tqZ 1 6 (fun w_ ⟨s0,s1,s2⟩=>(show w_.cell? ⟨w.heap.size,0,none⟩=some (.int .i64 x1:Value)from s0.cell 0)) (h:=?_);simp only[lyZ];refine tkZ 2 7 (h:=?_);simp only[lyZ];refine tqZ 3 8 (fun w_ ⟨s0,s1,s2⟩=>(show w_.cell? ⟨w.heap.size+1,0,none⟩=some (.int .i64 y1:Value)from s1.cell 0)) (h:=?_);simp only[lyZ];refine tkZ 5 10 (h:=?_);simp only[lyZ];refine tqZ 6 11 (fun w_ ⟨s0,s1,s2⟩=>(show w_.cell? ⟨w.heap.size,1,none⟩=some (.int .i64 x2:Value)from s0.cell 1)) (h:=?_);simp only[lyZ];refine tkZ 7 12 (h:=?_);simp only[lyZ];refine tqZ 8 13 (fun w_ ⟨s0,s1,s2⟩=>(show w_.cell? ⟨w.heap.size+1,1,none⟩=some (.int .i64 y2:Value)from s1.cell 1)) (h:=?_);simp only[lyZ];refine aoZ 4 (some 9) (fun K hK=>?_);go_simp;obtain⟨s0,s1,s2⟩:=hHeld;refine(H1.out _).mono ?_;rintro e_ v_ ⟨rfl,rfl⟩;go_wp2_with fail;refine hK.out _ _ ?_ (fun hHeld=>?_)
 ·exact⟨s0,s1,s2⟩
 clear hK K s0 s1 s2
 try simp only[lyZ]
 refine aoZ 9 (some 14) (fun K hK=>?_);go_simp;obtain⟨s0,s1,s2⟩:=hHeld;refine(H2.out _).mono ?_;rintro e_ v_ ⟨rfl,rfl⟩;go_wp2_with fail;refine hK.out _ _ ?_ (fun hHeld=>?_)
 ·exact⟨s0,s1,s2⟩
 clear hK K s0 s1 s2
 try simp only[lyZ]
 refine aoZ 10 (some 15) (fun K hK=>?_);go_simp;obtain⟨s0,s1,s2⟩:=hHeld;obtain⟨gb,hgb⟩:=geZ (wa.heap.size)
 try rw[hgb]
 refine hK.out _ _ ?_ (fun hHeld=>?_)
 ·exact⟨s0.beside _,s1.beside _,s2.alloc _⟩
 refine mr3 (fun W_=>(Has W_ gb 3 #[.int .i64 p,.int .i64 q])) ⟨s0.beside _,s1.beside _,s2.alloc _,(by rw[<-hgb];exact Has.made _ _ _)⟩ (fun h_=>?_);clear hHeld;have hHeld:=h_;clear h_;clear hK K s0 s1 s2
 try clear hgb
 try simp only[lyZ]
 refine aoZ 11 (some 16) (fun K hK=>?_);go_simp;obtain⟨s0,s1,s2,s3⟩:=hHeld;refine(HO.out _ _ s3).mono ?_;rintro e_ v_ ⟨rfl,rfl⟩;go_wp2_with fail;refine hK.out _ _ ?_ (fun hHeld=>?_)
 ·exact⟨s0,s1,s2,s3⟩
 clear hK K s0 s1 s2 s3
 try simp only[lyZ]
 refine tkZ 12 4 (h:=?_);simp only[lyZ];refine dnZ ?_;have HF:=zq hHeld.2.2.1;clear hHeld;go_wp2;go_ret
 exact⟨rfl,HF.out⟩
end
section
open Go.RowKit
open Go.Great
theorem info_bd15:(Tryz.prog.info? 209).map (fun i=>(i.zero,i.size,i.bytes))=some (some (.agg #[.int .i64 0,.int .i64 0,.int .i64 0,.int .i64 0]),4,32):=by kernel_rfl
theorem one_bd15 (d:Bd4): ∀u∈bdC d,u.oneCell'=true:=by
 intro u hu;simp only[bdC,List.mem_cons,List.not_mem_nil,or_false]at hu
 rcases hu with rfl|rfl|rfl|rfl<;>rfl
theorem take_succ15 {α:Type}{l:List α}{i:Nat}{x:α}(h:l[i]?=some x):l.take (i+1)=l.take i++[x]:=by
 rw[List.take_add_one,h]
 rfl
theorem osbnd_any (l:List Sn3)(A:Option Addr)(n c:Nat)(a b:Int)(w:World)(hs:SlO snC 3 w A n c l)(hn:n<=4096)(ha: -1<=a/\a<=1)(hb: -1<=b/\b<=1):
  Calls Tryz.prog 156 #[.slice A n c,.int .i64 a,.int .i64 b] w fun r w'=> ∃X k x,r= .returned (.slice X k x)/\OwR bdC 4 209 w.heap.size w' X k x (bdsL a b l)/\Below w.heap.size w w':=by
 have HL:=zq hs.1;have HS:=zq (fun W (hW:Below w.heap.size w W)=>hs.under hW);have hx0:(0:Int)<=n:=by omega
 have n1:wrap64 (-a)= -a:=IntWalk.wrap64_in _ (by omega);have n2:wrap64 (-b)= -b:=IntWalk.wrap64_in _ (by omega);clear hs ha hb;go_enter Tryz.func156,Tryz.ntmps156;go_wp2;go_loopg [7,12] n (fun kk v7 v12 wl=> ∃(i k:Nat) (X:Option Addr) (x:Nat),i<=n/\n-i<=kk/\v12= .int .i64 i/\v7= .slice X k x/\Hid (OwR bdC 4 209 w.heap.size wl X k x (bdsL a b (l.take i)))/\Hid (Below w.heap.size w wl))
 case atStart=>exact⟨0,0,none,0,by omega,by omega,rfl,rfl,zq (OwR.nil _ _ _ _ _),zq (Below.refl _ _)⟩
 obtain⟨i,k,X,x,hi,hik,rfl,rfl,HO,HB⟩:=hrel;obtain⟨k1,hk1⟩: ∃k1,k1=gk:=⟨_,rfl⟩
 subst hk1;obtain⟨wv,hwv⟩: ∃wv,wv=wr:=⟨_,rfl⟩
 subst hwv;by_cases hlt:i<n;rotate_left
 ·obtain rfl:i=n:=by omega
  have x1: ¬(i:Int)<i:=by omega
  have HE:Hid (l.take i=l):=zq (List.take_of_length_le (by rw[HL.out];exact Nat.le_refl _));clear hik hlt;go_wp2;go_ret
  exact⟨X,k,x,rfl,by have h_:=HO.out;rw[HE.out]at h_;exact h_,HB.out⟩
 obtain⟨s,hs⟩:=glZ l (i) (by rw[HL.out];omega);have HT:Hid (bdsL a b (l.take (i+1))=bdsL a b (l.take i)++bdsS a b s):=zq (by rw[take_succ15 hs,bdsL_snoc]);have HKB:Hid (k<=2*i):=zq (by have h1_:=HO.out.2;have h2_:=bds_len a b (l.take i);rw[List.length_take]at h2_;omega);obtain⟨bk,off,rfl,d0,d1,d2⟩:=(HS.out wv HB.out).span hs;clear hs;have x1:(i:Int)<n:=by omega
 have x2:(0:Int)<=i:=by omega
 have HV:=zq (fun W=>osis_any s W);unfold bdsS at HT;obtain⟨q,hq⟩:=geZ (qfT s);rw[hq]at HV HT;clear hq;obtain⟨se,sl,sh⟩:=s;unfold snA at HV;dsimp only at*;go_upto_region 5 with fail;obtain⟨wb,hwb⟩:=geZ (wv.alloc (.cells #[.int .i64 se,.int .i64 sl,.int .i64 sh] 119));rw[hwb];have HBN:=zq (show Below w.heap.size w wb from by rw[<-hwb];exact HB.out.alloc HB.out.size _);have HON:=zq (show OwR bdC 4 209 w.heap.size wb X k x (bdsL a b (l.take i))from HO.out.under (by rw[<-hwb];exact bA));have hh:Has wb wv.heap.size 119 #[.int .i64 se,.int .i64 sl,.int .i64 sh]:=by rw[<-hwb];exact Has.made _ _ _
 obtain⟨gb,hgb⟩: ∃g,wv.heap.size=g:=⟨_,rfl⟩
 simp only[hgb]at hh⊢;have HH:=zq hh;clear hh hwb hgb d0 d1 d2 x1 x2 HO HB;go_wp2_with (with_reducible refine ldZ 16 HH.out ?_);refine(HV.out _).mono ?_;rintro e_ v1 ⟨rfl,hb1⟩;have HB1:=tB HBN hb1;have HO1:=zq (HON.out.under hb1);have hh:=HH.out.u hb1;have g0:v1.cell? ⟨gb,0,none⟩=some (.int .i64 se):=hh.cell 0;have g1:v1.cell? ⟨gb,1,none⟩=some (.int .i64 sl):=hh.cell 1;have g2:v1.cell? ⟨gb,2,none⟩=some (.int .i64 sh):=hh.cell 2;clear hb1 HBN HON HH hh HV
 cases q with
 |false=>
  rw[if_neg (by decide),List.append_nil]at HT;go_wp2;go_roundg (k1-1)
  case measure=>omega
  case rel=>exact⟨i+1,k,X,x,by omega,by omega,by go_num,rfl,zq (by rw[HT.out];exact HO1.out),HB1⟩
 |true=>
  rw[if_pos rfl]at HT;have hsl:SlO bdC 4 (v1.alloc (.cells #[.int .i64 se,.int .i64 sl,.int .i64 a,.int .i64 b,.int .i64 se,.int .i64 sh,.int .i64 (-a),.int .i64 (-b)] 209)) (some ⟨v1.heap.size,0,none⟩) 2 2 [⟨se,sl,a,b⟩,⟨se,sh,-a,-b⟩]:=⟨rfl,qa7 (Has.made _ _ _) rfl⟩
  obtain⟨hO,hSL,h1,hBD⟩:=pourR 32 (HO1.out.under ((Below.refl _ _).alloc (Nat.le_refl _) (.cells #[.int .i64 se,.int .i64 sl,.int .i64 a,.int .i64 b,.int .i64 se,.int .i64 sh,.int .i64 (-a),.int .i64 (-b)] 209))) hsl one_bd15 (by have h_:=HB1.out.size;simp;omega) (by have h_:=HKB.out;omega) (by omega);have HBW:=zq (show Below w.heap.size w (v1.alloc (.cells #[.int .i64 se,.int .i64 sl,.int .i64 a,.int .i64 b,.int .i64 se,.int .i64 sh,.int .i64 (-a),.int .i64 (-b)] 209))from HB1.out.alloc HB1.out.size _);have HLN:=zq HO1.out.2;clear hsl HO1 HB1;go_upto_region 6 with fail;go_wp2_with (with_reducible refine qaG (o:=⟨some 36,_,_,_,_,_⟩) rfl (.tmp 18) (.tmp 35) 205 rfl w.heap.size 209 (.agg #[.int .i64 0,.int .i64 0,.int .i64 0,.int .i64 0]) 4 32 Tryz.underlying205 info_bd15 ?hz1 (by decide) X (k) x ((bdsL a b (l.take i)).flatMap bdC) ?hs1 hO (some ⟨v1.heap.size,0,none⟩) 2 2 (([⟨se,sl,a,b⟩,⟨se,sh,-a,-b⟩]:List Bd4).flatMap bdC) ?hx1 hSL h1 hBD ?next1)
  all_goals try rfl
  intro A1 c1 v2 ho hg;have HO2:=zq (OwR.poured (f:=bdC) (l':=[⟨se,sl,a,b⟩,⟨se,sh,-a,-b⟩]) HLN.out rfl (by rw[show([⟨se,sl,a,b⟩,⟨se,sh,-a,-b⟩]:List Bd4).flatMap bdC=bdC ⟨se,sl,a,b⟩++bdC ⟨se,sh,-a,-b⟩from rfl];exact ho.out));have HB2:=zq (qai HBW.out HBW.out.size hO.out (Nat.le_refl _) rfl hg.out);clear ho hg hO hSL h1 hBD HBW HLN n1 n2 g0 g1 g2;go_wp2;go_roundg (k1-1)
  case measure=>omega
  case rel=>exact⟨i+1,k+2,A1,c1,by omega,by omega,by go_num,rfl,zq (by rw[HT.out];exact HO2.out),HB2⟩
theorem flat_set {l:List Sn3}{j:Nat}{x y:Sn3}(hx:l[j]?=some x)(h0:x.edge=y.edge)(h1:x.lo=y.lo):(l.set j y).flatMap snC=(l.flatMap snC).set (j*3+2) (.int .i64 y.hi):=by
 induction l generalizing j with
 |nil=>simp at hx
 |cons z r ih=>
  cases j with
  |zero=>
   simp at hx;subst hx;simp[snC,h0,h1]
  |succ m=>
   have:=ih (j:=m) (by simpa using hx);rw[List.set_cons_succ,List.flatMap_cons,this,List.flatMap_cons];rw[show(m+1)*3+2=(snC z).length+(m*3+2) by simp[snC];omega];rw[List.set_append_right _ _ (by omega)]
   congr 2
   omega
theorem join_set {l:List Sn3}{s t:Sn3}{j:Nat}(hl:l.length=j+1)(ht:l[j]?=some t)(hc:t.edge=s.edge/\t.hi=s.lo):joinL l s=l.set j ⟨t.edge,t.lo,s.hi⟩/\(joinL l s).length=j+1:=by
 rcases qc1 l with rfl|⟨m,u,rfl⟩
 ·simp at hl
 ·have hm:m.length=j:=by simpa using hl
  subst hm;rw[List.getElem?_append_right (Nat.le_refl _)]at ht;simp at ht;subst ht;rw[qdt,if_pos hc,List.set_append_right _ _ (Nat.le_refl _)];simp
theorem join_push {l:List Sn3}{s t:Sn3}{j:Nat}(hl:l.length=j+1)(ht:l[j]?=some t)(hc: ¬(t.edge=s.edge/\t.hi=s.lo)):joinL l s=l++[s]:=by
 rcases qc1 l with rfl|⟨m,u,rfl⟩
 ·simp at hl
 ·have hm:m.length=j:=by simpa using hl
  subst hm;rw[List.getElem?_append_right (Nat.le_refl _)]at ht;simp at ht;subst ht;rw[qdt,if_neg hc]
theorem osjoin_any (l:List Sn3)(s:Sn3)(base:Nat)(A:Option Addr)(n c:Nat)(w:World)(ho:OwR snC 3 119 base w A n c l)(hbase:base<=w.heap.size)(hn:n<=100000):
  Calls Tryz.prog 202 #[.slice A n c,.agg (snA s)] w fun r w'=> ∃X k x,r= .returned (.slice X k x)/\OwR snC 3 119 base w' X k x (joinL l s)/\w.grownBy w' (Value.slice A n c).ownBlock:=by
 obtain⟨wa,hwa,hbwa,HWA,HBWA,h0⟩:=bx1Z w 119 (snA s);have c0:wa.cell? ⟨w.heap.size,0,none⟩=some (.int .i64 s.edge):=h0.cell 0;have c1:wa.cell? ⟨w.heap.size,1,none⟩=some (.int .i64 s.lo):=h0.cell 1;have c2:wa.cell? ⟨w.heap.size,2,none⟩=some (.int .i64 s.hi):=h0.cell 2;have HO:=zq (show OwR snC 3 119 base wa A n c l from ho.under (by rw[<-hwa];exact bA));have HG:Hid (w.grownBy wa (Value.slice A n c).ownBlock):=zq (by rw[<-hwa];exact World.grownBy_alloc w _ _);have HH:=zq h0;have HBA:=zq (show base<=wa.heap.size from Nat.le_trans hbase hbwa.size);have HL:=zq ho.2;clear hwa hbwa h0 ho hbase HBWA;obtain⟨se,sl,sh⟩:=s;unfold snA at*;dsimp only at*;by_cases h0:n=0
 ·subst h0
  obtain rfl:l=[]:=List.eq_nil_of_length_eq_zero HL.out;have z0:decide ((-1:Int)≥0)=false:=by decide
  have z1:decide ((0:Int)<= -1)=false:=by decide
  go_enter Tryz.func202,Tryz.ntmps202;go_upto_region 2 with fail;rw[HWA.out];clear HWA;go_wp2;go_quiet (fail);obtain⟨wx,hwx⟩:=geZ (wa.drewN nq);have HO2:Hid (OwR snC 3 119 base wx A 0 c []):=zq (by rw[<-hwx];exact HO.out);have HG2:Hid (w.grownBy wx (Value.slice A 0 c).ownBlock):=zq (by rw[<-hwx];exact qbV HG.out _);have HH2:Hid (Has wx (w.heap.size) 119 #[.int .i64 se,.int .i64 sl,.int .i64 sh]):=zq (by rw[<-hwx];exact HH.out);have HB2:Hid (base<=wx.heap.size):=zq (by rw[<-hwx];exact HBA.out);rw[hwx];clear hwx HO HG HH HBA;obtain⟨hN,hO,hC,h1,hBD⟩:=pushR (f:=snC) (k:=3) (e:=119) (w:=wx) 24 ⟨se,sl,sh⟩ #[.int .i64 se,.int .i64 sl,.int .i64 sh] rfl rfl (qbj _) HO2.out HB2.out (by first|omega|(have h_:=HNB.out;omega)) (by omega);have HLN:=zq HO2.out.2;have HG3:Hid (w.grownBy (wx.alloc (.cells #[.int .i64 se,.int .i64 sl,.int .i64 sh] 119)) (Value.slice A 0 c).ownBlock):=zq (HG2.out.trans (World.grownBy_alloc wx _ _));clear HO2 HG2;go_wp2_with (first|(with_reducible refine ldZ 39 HH2.out ?_)|(with_reducible refine qao (o:=⟨some 41,_,_,_,_,_⟩) rfl (.tmp 38) (.tmp 40) 52 rfl base 119 (.agg #[.int .i64 0,.int .i64 0,.int .i64 0]) 3 24 Tryz.underlying52 qaR ?hz1 (by decide) A (0) c (([]).flatMap snC) ?hs1 hO ⟨wx.heap.size,0,none⟩ 1 1 (snC ⟨se,sl,sh⟩) ?hx1 hN hC h1 hBD ?next1))
  all_goals try rfl
  intro A1 c1 v1 ho hg;have HF:Hid (OwR snC 3 119 base v1 A1 1 c1 [⟨se,sl,sh⟩]):=zq ⟨ho.out,rfl⟩;have HGF:=zq (HG3.out.trans hg.out);clear ho hg hN hO hC h1 hBD HG3 HLN;go_wp2;go_ret
  exact⟨A1,_,c1,rfl,by first|exact HF.out|(rw[HJ.out];exact HF.out),HGF.out⟩
 obtain⟨j,hj⟩: ∃j,n=j+1:=⟨n-1,by omega⟩
 obtain⟨t,ht⟩:=glZ l (n-1) (by rw[HL.out];omega);have HX:=zq ht;obtain⟨bk,rfl,hbk,hbl⟩:=HO.out.some (by omega);have hc_:=HO.out.sl.at_cell (fun _=>rfl) (by decide) ht (i:=0) rfl;have hc1_:=HO.out.sl.at_cell (fun _=>rfl) (by decide) ht (i:=2) rfl;have e0:0+(n-1)*3+0=(n-1)*3:=by omega
 have e2:0+(n-1)*3+2=(n-1)*3+2:=by omega
 rw[e0]at hc_;rw[e2]at hc1_;have r1:wrap64 ((n:Int)-1)=(n:Int)-1:=IntWalk.wrap64_in _ (by omega);have r2:((n:Int)-1).toNat=n-1:=by omega
 have z0:(0:Int)<=(n:Int)-1:=by omega
 have z2:(n:Int)-1<n:=by omega
 have z4:(1:Int)<=(n:Int):=by omega
 have HNB:=zq (show n<=100000/\n=j+1 from⟨hn,hj⟩);have HL1:=zq (show l.length=(n-1)+1 by rw[HL.out];omega);obtain⟨te,tl,th⟩:=t;dsimp only at*;clear e0 e2 ht h0 hn hj hbk hbl;by_cases y1:te=se;rotate_left
 ·skip
  have q1:(te==se)=false:=by simp[y1]
  have HJ:=zq (join_push (s:=⟨se,sl,sh⟩) HL1.out HX.out (fun h_=>by first|exact y1 h_.1|exact y2 h_.2));clear y1;go_enter Tryz.func202,Tryz.ntmps202;go_upto_region 2 with fail;rw[HWA.out];clear HWA;go_wp2;go_quiet (fail);obtain⟨wx,hwx⟩:=geZ (wa.drewN nq);have HO2:Hid (OwR snC 3 119 base wx (some ⟨bk,0,none⟩) n c l):=zq (by rw[<-hwx];exact HO.out);have HG2:Hid (w.grownBy wx (Value.slice (some ⟨bk,0,none⟩) n c).ownBlock):=zq (by rw[<-hwx];exact qbV HG.out _);have HH2:Hid (Has wx (w.heap.size) 119 #[.int .i64 se,.int .i64 sl,.int .i64 sh]):=zq (by rw[<-hwx];exact HH.out);have HB2:Hid (base<=wx.heap.size):=zq (by rw[<-hwx];exact HBA.out);rw[hwx];clear hwx HO HG HH HBA;obtain⟨hN,hO,hC,h1,hBD⟩:=pushR (f:=snC) (k:=3) (e:=119) (w:=wx) 24 ⟨se,sl,sh⟩ #[.int .i64 se,.int .i64 sl,.int .i64 sh] rfl rfl (qbj _) HO2.out HB2.out (by first|omega|(have h_:=HNB.out;omega)) (by omega);have HLN:=zq HO2.out.2;have HG3:Hid (w.grownBy (wx.alloc (.cells #[.int .i64 se,.int .i64 sl,.int .i64 sh] 119)) (Value.slice (some ⟨bk,0,none⟩) n c).ownBlock):=zq (HG2.out.trans (World.grownBy_alloc wx _ _));clear HO2 HG2;go_wp2_with (first|(with_reducible refine ldZ 39 HH2.out ?_)|(with_reducible refine qao (o:=⟨some 41,_,_,_,_,_⟩) rfl (.tmp 38) (.tmp 40) 52 rfl base 119 (.agg #[.int .i64 0,.int .i64 0,.int .i64 0]) 3 24 Tryz.underlying52 qaR ?hz2 (by decide) (some ⟨bk,0,none⟩) (n) c ((l).flatMap snC) ?hs2 hO ⟨wx.heap.size,0,none⟩ 1 1 (snC ⟨se,sl,sh⟩) ?hx2 hN hC h1 hBD ?next2))
  all_goals try rfl
  intro A2 c2 v2 ho hg;have HF:=zq (OwR.snoc HLN.out ho.out);have HGF:=zq (HG3.out.trans hg.out);clear ho hg hN hO hC h1 hBD HG3 HLN;go_wp2;go_ret
  exact⟨A2,_,c2,rfl,by first|exact HF.out|(rw[HJ.out];exact HF.out),HGF.out⟩
 by_cases y2:th=sl;rotate_left
 ·skip
  have q1:(te==se)=true:=by simp[y1]
  have q2:(th==sl)=false:=by simp[y2]
  have HJ:=zq (join_push (s:=⟨se,sl,sh⟩) HL1.out HX.out (fun h_=>by first|exact y1 h_.1|exact y2 h_.2));clear y1 y2;go_enter Tryz.func202,Tryz.ntmps202;go_upto_region 2 with fail;rw[HWA.out];clear HWA;go_wp2;go_quiet (fail);obtain⟨wx,hwx⟩:=geZ (wa.drewN nq);have HO2:Hid (OwR snC 3 119 base wx (some ⟨bk,0,none⟩) n c l):=zq (by rw[<-hwx];exact HO.out);have HG2:Hid (w.grownBy wx (Value.slice (some ⟨bk,0,none⟩) n c).ownBlock):=zq (by rw[<-hwx];exact qbV HG.out _);have HH2:Hid (Has wx (w.heap.size) 119 #[.int .i64 se,.int .i64 sl,.int .i64 sh]):=zq (by rw[<-hwx];exact HH.out);have HB2:Hid (base<=wx.heap.size):=zq (by rw[<-hwx];exact HBA.out);rw[hwx];clear hwx HO HG HH HBA;obtain⟨hN,hO,hC,h1,hBD⟩:=pushR (f:=snC) (k:=3) (e:=119) (w:=wx) 24 ⟨se,sl,sh⟩ #[.int .i64 se,.int .i64 sl,.int .i64 sh] rfl rfl (qbj _) HO2.out HB2.out (by first|omega|(have h_:=HNB.out;omega)) (by omega);have HLN:=zq HO2.out.2;have HG3:Hid (w.grownBy (wx.alloc (.cells #[.int .i64 se,.int .i64 sl,.int .i64 sh] 119)) (Value.slice (some ⟨bk,0,none⟩) n c).ownBlock):=zq (HG2.out.trans (World.grownBy_alloc wx _ _));clear HO2 HG2;go_wp2_with (first|(with_reducible refine ldZ 39 HH2.out ?_)|(with_reducible refine qao (o:=⟨some 41,_,_,_,_,_⟩) rfl (.tmp 38) (.tmp 40) 52 rfl base 119 (.agg #[.int .i64 0,.int .i64 0,.int .i64 0]) 3 24 Tryz.underlying52 qaR ?hz3 (by decide) (some ⟨bk,0,none⟩) (n) c ((l).flatMap snC) ?hs3 hO ⟨wx.heap.size,0,none⟩ 1 1 (snC ⟨se,sl,sh⟩) ?hx3 hN hC h1 hBD ?next3))
  all_goals try rfl
  intro A3 c3 v3 ho hg;have HF:=zq (OwR.snoc HLN.out ho.out);have HGF:=zq (HG3.out.trans hg.out);clear ho hg hN hO hC h1 hBD HG3 HLN;go_wp2;go_ret
  exact⟨A3,_,c3,rfl,by first|exact HF.out|(rw[HJ.out];exact HF.out),HGF.out⟩
 have q1:(te==se)=true:=by simp[y1]
 have q2:(th==sl)=true:=by simp[y2]
 have HJ:=zq (join_set (s:=⟨se,sl,sh⟩) HL1.out HX.out ⟨y1,y2⟩);clear y1 y2;go_enter Tryz.func202,Tryz.ntmps202;go_upto_region 2 with fail;rw[HWA.out];clear HWA;go_wp2;go_quiet (fail);obtain⟨wx,hwx⟩:=geZ (wa.drewN nq);have HO2:Hid (OwR snC 3 119 base wx (some ⟨bk,0,none⟩) n c l):=zq (by rw[<-hwx];exact HO.out);have HG2:Hid (w.grownBy wx (Value.slice (some ⟨bk,0,none⟩) n c).ownBlock):=zq (by rw[<-hwx];exact qbV HG.out _);have HH2:Hid (Has wx (w.heap.size) 119 #[.int .i64 se,.int .i64 sl,.int .i64 sh]):=zq (by rw[<-hwx];exact HH.out);have HB2:Hid (base<=wx.heap.size):=zq (by rw[<-hwx];exact HBA.out);rw[hwx];clear hwx HO HG HH HBA;have k2:wx.cell? ⟨w.heap.size,2,none⟩=some (.int .i64 sh):=HH2.out.cell 2;have f2:wx.frozen? ⟨bk,(n-1)*3+2,none⟩=false:=HO2.out.thaw _;have k3:wx.cell? ⟨bk,(n-1)*3+2,none⟩=some (.int .i64 th):=by first|assumption|(have h_:=HO2.out.sl.at_cell (fun _=>rfl) (by decide) HX.out (i:=2) rfl;rw[show 0+(n-1)*3+2=(n-1)*3+2 by omega]at h_;exact h_)
 have HOF:=zq (OwR.set HO2.out (j:=(n-1)*3+2) (u:= .int .i64 sh) (l':=l.set (n-1) ⟨te,tl,sh⟩) (by rw[List.length_set];exact HL.out) (flat_set HX.out rfl rfl));have HGF:Hid (w.grownBy (wx.setCell ⟨bk,(n-1)*3+2,none⟩ (.int .i64 sh)) (Value.slice (some ⟨bk,0,none⟩) n c).ownBlock):=zq (qbW (p:=⟨bk,(n-1)*3+2,none⟩) HG2.out (by rfl) _);clear HO2 HG2 HH2 HB2;go_wp2;go_ret
 exact⟨_,_,c,rfl,by rw[HJ.out.1];exact HOF.out,HGF.out⟩
end
section
open Go.RowKit
open Go.Great
def splL (X:List Value)(o:Nat)(cs:List Value):List Value:=X.take o++cs++X.drop (o+cs.length)
theorem splL_len (X:List Value)(o:Nat)(cs:List Value)(h:o+cs.length<=X.length):(splL X o cs).length=X.length:=by
 unfold splL;simp;omega
theorem splL_take (X:List Value)(o:Nat)(cs:List Value)(h:o<=X.length):(splL X o cs).take o=X.take o:=by
 unfold splL;rw[List.append_assoc,List.take_append_of_le_length (by simp;omega),List.take_take,Nat.min_self]
theorem qf2 {P:Program}(w:World)(t e ty:TypeId)(z:Value)(ht:P.underlying t=some (.slice e))(hv: ∀w,(zeroValue e).run P w= .ok z w)(h1: ∀v∈z.cells.toList,v.oneCell'=true)(g o n c:Nat)(cur:Array Value)
  (hg:Has w g e cur) (hfit:o+n*z.cells.size<=cur.size) (h0:0<n):
  (Builtin.clear_ #[t] ty #[.slice (some ⟨g,o,none⟩) n c]).run P w= .ok (.tuple #[]) (w.setRow g (splL cur.toList o (Builtin.zeroCells z.cells n).toList).toArray):=by
 have hst:=run_storeCells_at P g o e (Builtin.zeroCells z.cells n).toList 0 cur w hg (by simpa[Builtin.zeroCells]using hfit) (fun v hv'=>by
  obtain⟨i,hi,rfl⟩:=List.getElem_of_mem hv';simp[Builtin.zeroCells]at hi⊢;exact h1 _ (by
   have hp:0<z.cells.size:=by
    rcases Nat.eq_zero_or_pos z.cells.size with h|h
    ·rw[h]at hi;simp at hi
    ·exact h
   rw[getElem!_pos z.cells _ (Nat.mod_lt _ hp)];simp))
 obtain⟨m,rfl⟩: ∃m,n=m+1:=⟨n-1,by omega⟩
 simp only[Nat.add_zero]at hst;simp[Builtin.clear_,run_underlying ht,hv,hst,splL]
theorem qcp {l:List Lc3}{i:Nat}(h:i<=l.length):(l.take i).flatMap lcC=(l.flatMap lcC).take (i*3)/\(l.drop i).flatMap lcC=(l.flatMap lcC).drop (i*3):=by
 have h1:l.flatMap lcC=(l.take i).flatMap lcC++(l.drop i).flatMap lcC:=by rw[<-List.flatMap_append,List.take_append_drop]
 have h2:((l.take i).flatMap lcC).length=i*3:=by rw[qbx (f:=lcC) (k:=3) (fun _=>rfl),List.length_take,Nat.min_eq_left h]
 rw[h1];exact⟨(List.take_left' h2).symm,(List.drop_left' h2).symm⟩
theorem qfD {base g n c:Nat}{w:World}{cur:Array Value}{l:List Lc3}(hb:base<=g)(hg:Has w g 73 cur)(hnc:n<=c)(hcm:c<=maxLen)(hcs:cur.size=c*3)(hl:l.length=n)(ht:cur.toList.take (n*3)=l.flatMap lcC):OwR lcC 3 73 base w (some ⟨g,0,none⟩) n c l:=by
 refine⟨⟨?_,.inr ⟨g,c,cur,rfl,hb,hg,hnc,hcm,hcs,ht⟩⟩,hl⟩;rw[qbx (f:=lcC) (k:=3) (fun _=>rfl),hl]
theorem owl_take16 {base n c i:Nat}{w:World}{A:Option Addr}{l:List Lc3}(h:OwR lcC 3 73 base w A n c l)(hi:i<=n):OwR lcC 3 73 base w A i c (l.take i):=by
 cases A with
 |none=>
  obtain⟨e,_⟩:=h.sl.2.2.1 rfl;subst e;obtain rfl:i=0:=by omega
  rcases h.1.2 with⟨h1,_⟩|⟨g,cap,cur,h1,_⟩
  ·injection h1 with _ _ h1
   subst h1;exact OwR.nil _ _ _ _ _
  ·cases h1
 |some ad=>
  obtain⟨g,cur,rfl,hb,hg,hnc,hcm,hcs,ht⟩:=h.has;refine qfD hb hg (by omega) hcm hcs (by rw[List.length_take,h.2];omega) ?_;rw[(qcp (by rw[h.2];exact hi)).1,<-ht,List.take_take,Nat.min_eq_left (by omega)]
/-! What DeleteFunc has made of a list when it has come to j and kept i. -/
structure DelP16 (p:Lc3->Bool) (l L:List Lc3) (i j:Nat):Prop where
 len:L.length=l.length
 le:i<j
 head:L.take i=(l.take j).filter fun k=>!p k
 rest:L.drop j=l.drop j
theorem del_start16 {p:Lc3->Bool}{l:List Lc3}{i:Nat}{x:Lc3}(hx:l[i]?=some x)(hp:p x=true)(hno: ∀(k:Nat) (y:Lc3),k<i->l[k]?=some y->p y=false):DelP16 p l l i (i+1):=by
 refine⟨rfl,Nat.lt_succ_self _,?_,rfl⟩;rw[List.take_add_one,hx,List.filter_append];have h1:(l.take i).filter (fun k=>!p k)=l.take i:=by
  rw[List.filter_eq_self];intro y hy;obtain⟨k,hk,rfl⟩:=List.getElem_of_mem hy;rw[List.length_take]at hk;rw[List.getElem_take,hno k _ (by omega) (List.getElem?_eq_getElem (by omega))]
  rfl
 rw[h1];show _=_++List.filter _ [x]
 rw[List.filter_cons,hp];simp
theorem del_at16 {p:Lc3->Bool}{l L:List Lc3}{i j:Nat}(h:DelP16 p l L i j){x:Lc3}(hx:l[j]?=some x):L[j]?=some x:=by
 have h1:(L.drop j)[0]?=(l.drop j)[0]?:=by rw[h.rest]
 rw[List.getElem?_drop,List.getElem?_drop]at h1;rw[<-hx]
 simpa using h1
theorem del_drop16 {p:Lc3->Bool}{l L:List Lc3}{i j:Nat}(h:DelP16 p l L i j){x:Lc3}(hx:l[j]?=some x)(hp:p x=true):DelP16 p l L i (j+1):=by
 refine⟨h.len,by have:=h.le;omega,?_,?_⟩
 ·rw[h.head,List.take_add_one,hx,List.filter_append]
  show _=_++List.filter _ [x]
  rw[List.filter_cons,hp];simp
 ·have h1:=congrArg (List.drop 1) h.rest
  rw[List.drop_drop,List.drop_drop]at h1;exact h1
theorem del_keep16 {p:Lc3->Bool}{l L:List Lc3}{i j:Nat}(h:DelP16 p l L i j){x:Lc3}(hx:l[j]?=some x)(hp:p x=false):DelP16 p l (L.set i x) (i+1) (j+1):=by
 have hj:=(List.getElem?_eq_some_iff.1 hx).1;have hi:=h.le;refine⟨by rw[List.length_set,h.len],by omega,?_,?_⟩
 ·rw[List.take_add_one,List.take_set_of_le (Nat.le_refl _),h.head,List.take_add_one,hx,List.filter_append]
  congr 1
  rw[List.getElem?_set_self (by rw[h.len];omega)];show _=List.filter _ [x]
  rw[List.filter_cons,hp]
  rfl
 ·rw[List.drop_set_of_lt (by omega)]
  have h1:=congrArg (List.drop 1) h.rest;rw[List.drop_drop,List.drop_drop]at h1;exact h1
theorem del_end16 {p:Lc3->Bool}{l L:List Lc3}{i:Nat}(h:DelP16 p l L i l.length):L.take i=l.filter fun k=>!p k:=by
 rw[h.head,List.take_of_length_le (Nat.le_refl _)]
theorem flat_set16 {l:List Lc3}{i:Nat}{x:Lc3}(hi:i<l.length):(l.set i x).flatMap lcC=splL (l.flatMap lcC) (i*3) (lcC x):=by
 unfold splL;have h1:=(qcp (l:=l) (i:=i) (by omega)).1;have h3:=(qcp (l:=l) (i:=i+1) (by omega)).2;rw[show(i+1)*3=i*3+3 by omega]at h3;rw[List.set_eq_take_append_cons_drop,if_pos hi,List.flatMap_append,List.flatMap_cons,h1,h3];simp[lcC]
theorem spl316 {X:List Value}{o:Nat}{a b c:Value}(h:o+3<=X.length):((X.set o a).set (o+1) b).set (o+2) c=splL X o [a,b,c]:=by
 apply List.ext_getElem?
 intro k;unfold splL;by_cases h1:k<o
 ·rw[List.getElem?_set_ne (by omega),List.getElem?_set_ne (by omega),List.getElem?_set_ne (by omega),List.getElem?_append_left (by simp;omega),List.getElem?_append_left (by simp;omega),List.getElem?_take,if_pos h1]
 ·by_cases h2:k<o+3
  ·rw[List.getElem?_append_left (by simp;omega),List.getElem?_append_right (by simp;omega)]
   rw[List.length_take,Nat.min_eq_left (by omega)]
   rcases(by omega:k=o\/k=o+1\/k=o+2)with rfl|rfl|rfl
   ·rw[List.getElem?_set_ne (by omega),List.getElem?_set_ne (by omega),List.getElem?_set_self (by omega)]
    simp
   ·rw[List.getElem?_set_ne (by omega),List.getElem?_set_self (by simp;omega),show o+1-o=1 by omega]
    rfl
   ·rw[List.getElem?_set_self (by simp;omega),show o+2-o=2 by omega]
    rfl
  ·rw[List.getElem?_set_ne (by omega),List.getElem?_set_ne (by omega),List.getElem?_set_ne (by omega),List.getElem?_append_right (by simp;omega)]
   rw[List.length_append,List.length_take,Nat.min_eq_left (by omega),List.getElem?_drop]
   congr 1
   simp;omega
theorem olco_any (x:Lc3)(d:Int)(g:Nat)(w:World)(hc:w.cell? ⟨g,0,none⟩=some (.int .i64 d)):
  Calls Tryz.prog 106 #[.agg (lcA x),.pointer (some ⟨g,0,none⟩)] w fun e w'=>e= .returned (.bool (!(x.train==d)))/\Below w.heap.size w w':=by
 obtain⟨wa,hwa,hbwa,HWA,HBWA,h0⟩:=bx1Z w 73 (lcA x);have c0:wa.cell? ⟨w.heap.size,1,none⟩=some (.int .i64 x.train):=h0.cell 1;have e0:wa.cell? ⟨g,0,none⟩=some (.int .i64 d):=(hbwa.cell (qah hc)).trans hc;clear hwa hbwa h0 hc;obtain⟨q,hq⟩:=geZ ((x.train==d));have z1:(x.train !=d)=!q:=by rw[<-hq];rfl
 rw[hq];unfold lcA at*;go_enter Tryz.func106,Tryz.ntmps106;go_upto_region 1 with fail;rw[HWA.out];clear HWA;go_wp2;go_ret
 exact⟨by first|rfl|(rw[hq];done)|simp_all,HBWA.out⟩
theorem oclonel_any (A:Option Addr)(n c:Nat)(l:List Lc3)(w:World)(hs:SlO lcC 3 w A n c l)(hn:n<=1000):
  Calls Tryz.prog 180 #[.slice A n c] w fun e w'=> ∃A' c',e= .returned (.slice A' n c')/\OwR lcC 3 73 w.heap.size w' A' n c' l/\Below w.heap.size w w':=by
 obtain⟨HLN,hs⟩:=hs;have H1:Hid (∀u∈l.flatMap lcC,u.oneCell'=true):=zq fun u hu=>by
  obtain⟨x,_,h⟩:=List.mem_flatMap.1 hu;exact one_lc16 x u h
 have HLN:=zq HLN;obtain⟨vs,hvs⟩:=geZ (l.flatMap lcC);have HVS:=zq hvs;rw[hvs]at hs H1;clear hvs;have HFIN:Hid (∀A' c' W,W.ownsRow w.heap.size 73 3 (.slice A' n c') n vs->OwR lcC 3 73 w.heap.size W A' n c' l):=zq fun A' c' W h=>⟨by rw[HVS.out];exact h,HLN.out⟩
 clear HVS HLN
 cases hA:A with
 |none=>
  subst hA;obtain⟨rfl,rfl⟩:=hs.2.1 rfl;have e0:vs=[]:=List.eq_nil_of_length_eq_zero (by simpa using hs.1);subst e0;have HO0:Hid (w.ownsRow w.heap.size 73 3 (.slice none 0 0) 0 []):=zq (World.ownsRow_nil w w.heap.size 73 3);have q1:=fun w:World=>Lib.run_eql_slice_nil (P:=Tryz.prog) w 28 73 none 0 0 0 0 Tryz.underlying28;simp only[Option.isNone]at q1;clear hs;go_enter Tryz.func180,Tryz.ntmps180;go_wp2;go_ret
  exact⟨none,0,rfl,HFIN.out _ _ _ HO0.out,Below.refl _ _⟩
 |some ad=>
  subst hA;have HSL:=zq (hs.beside (.cells #[] 73));have HO:=zq (World.ownsRow_lit (base:=w.heap.size) (e:=73) (size:=3) w #[] 0 (Nat.le_refl _) (by unfold maxLen;omega) rfl);have HB:Hid (0+n<=maxLen/\(0+n)*24<=140737488355328/\w.heap.size<=(w.alloc (.cells #[] 73)).heap.size):=zq ⟨by unfold maxLen;omega,by omega,by simp⟩;have HBL:Hid (Below w.heap.size w (w.alloc (.cells #[] 73))):=zq (bA);have q1:=fun w:World=>Lib.run_eql_slice_nil (P:=Tryz.prog) w 28 73 (some ad) n c 0 0 Tryz.underlying28;simp only[Option.isNone]at q1;clear hs;go_enter Tryz.func180,Tryz.ntmps180;go_wp2_with (with_reducible refine qaG (o:=⟨some 7,_,_,_,_,_⟩) rfl (.tmp 5) (.tmp 6) 28 rfl w.heap.size 73 (.agg #[.int .i64 0,.int .i64 0,.int .i64 0]) 3 24 Tryz.underlying28 qdF ?hz (by decide) (some ⟨w.heap.size,0,none⟩) 0 0 [] ?hs HO (some ad) n c vs ?hx HSL H1 HB ?next)
  all_goals try rfl
  intro A4 c4 w4 ho4 hg4;have HO4:Hid (w4.ownsRow w.heap.size 73 3 (.slice A4 n c4) n vs):=zq (by simpa using ho4.out);clear ho4;go_wp2;go_ret
  exact⟨A4,c4,rfl,HFIN.out _ _ _ HO4.out,qai HBL.out HB.out.2.2 HO.out (Nat.le_refl _) rfl hg4.out⟩
theorem oix_lo (p:Lc3->Bool)(l:List Lc3)(A:Option Addr)(n c:Nat)(g:Nat)(w:World)(hs:SlO lcC 3 w A n c l)(hbig:n<=1048576)
  (HE:Hid (∀(x:Lc3) W,Below w.heap.size w W->Calls Tryz.prog 106 #[.agg (lcA x),.pointer (some ⟨g,0,none⟩)] W fun e w'=>e= .returned (.bool (p x))/\Below W.heap.size W w')):
  Calls Tryz.prog 43 #[.slice A n c,.func (.func 106) #[] #[.pointer (some ⟨g,0,none⟩)]] w fun e w'=>e= .returned (.int .i64 (idxL p l))/\Below w.heap.size w w':=by
 try unfold lcA at HE
 have HN:Hid (l.length=n):=zq hs.len13;have HW:=zq hs;clear hs;have x0:(0:Int)<=n:=by omega
 obtain⟨R,hR⟩:=geZ (idxL p l);have HR:=zq hR;rw[hR];clear hR;go_enter Tryz.func43,Tryz.ntmps43;go_wp2;go_loopg [8] n (fun kk v wl=> ∃j:Nat,j<=n/\n-j<=kk/\v= .int .i64 j/\Hid (∀i x,i<j->l[i]?=some x->p x=false)/\Hid (Below w.heap.size w wl))
 case atStart=>exact⟨0,by omega,by omega,rfl,zq fun i x h=>absurd h (by omega),zq (Below.refl _ _)⟩
 obtain⟨j,hj,hjk,rfl,HNO,HBL⟩:=hrel;by_cases hlt:j<n
 ·obtain⟨x,hx⟩:=glZ l (j) (by rw[HN.out];omega)
  obtain⟨bk,off,rfl,d0,d1,d2⟩:=(HW.out.under HBL.out).lock hx;have HX:=zq hx;have y0:(0:Int)<=j:=by omega
  have y1:(j:Int)<n:=by omega
  have HC:=zq (HE.out x wr HBL.out);clear hx;generalize hb:p x=b at*;have HBE:=zq hb;clear hb
  cases b with
  |true=>
   have HF:Hid (R=j):=zq (by rw[<-HR.out];exact qbE HX.out HBE.out HNO.out);go_upto_region 4 with fail;go_wp2_with fail;refine HC.out.mono ?_;rintro e w1 ⟨rfl,hb1⟩;have HB1:=tB HBL hb1;clear hb1 d0 d1 d2 HBE HNO;go_wp2;go_ret
   exact⟨by rw[HF.out];rfl,HB1.out⟩
  |false=>
   go_upto_region 4 with fail;go_wp2_with fail;refine HC.out.mono ?_;rintro e w1 ⟨rfl,hb1⟩;have HB1:=tB HBL hb1;have HN2:Hid (∀i y,i<j+1->l[i]?=some y->p y=false):=zq fun i y hi hy=>by
    by_cases h:i=j
    ·subst h;rw[HX.out]at hy;cases hy;exact HBE.out
    ·exact HNO.out i y (by omega) hy
   clear hb1 d0 d1 d2 HBE HNO;go_wp2;go_roundg (gk-1)
   case measure=>omega
   case rel=>exact⟨j+1,by omega,by omega,by go_num,HN2,HB1⟩
 ·have y1: ¬(j:Int)<n:=by omega
  have HF:Hid (R= -1):=zq (by rw[<-HR.out];exact qbc fun i y hi hy=>HNO.out i y (by have:=HN.out;omega) hy);go_wp2;go_ret
  exact⟨by rw[HF.out];rfl,HBL.out⟩
theorem zero_lock16: ∀w,(zeroValue 73).run Tryz.prog w= .ok (.agg #[.int .i64 0,.int .i64 0,.int .i64 0]) w:=fun w=>by
 obtain⟨i,hi,hz,_,_⟩:=info_parts (P:=Tryz.prog) qdF;simp[zeroValue,typeInfo,hi,hz]
theorem owl_store16 {base b n c i:Nat}{w:World}{L:List Lc3}(h:OwR lcC 3 73 base w (some ⟨b,0,none⟩) n c L)(hi:i<n)(x:Lc3):OwR lcC 3 73 base (w.setCells b (i*3) (lcC x)) (some ⟨b,0,none⟩) n c (L.set i x)/\Below base w (w.setCells b (i*3) (lcC x))/\w.there b (i*3) 3:=by
 obtain⟨g,cur,e,hb,hg,hnc,hcm,hcs,ht⟩:=h.has;injection e with e _ _
 subst e;have hl:=h.2;have hlen:(L.flatMap lcC).length=n*3:=by rw[qbx (f:=lcC) (k:=3) (fun _=>rfl),hl]
 refine⟨?_,?_,fun j hj=>⟨?_,hg.thaw _⟩⟩
 ·refine qfD hb (((hg.stored (i*3) (.int .i64 x.route)).stored (i*3+1) (.int .i64 x.train)).stored (i*3+2) (.int .i64 x.no)) hnc hcm (by simpa using hcs) (by rw[List.length_set,hl]) ?_
  rw[Array.toList_setIfInBounds,Array.toList_setIfInBounds,Array.toList_setIfInBounds,List.take_set,List.take_set,List.take_set,ht,spl316 (by rw[hlen];omega),flat_set16 (by rw[hl];exact hi)]
  rfl
 ·exact(((Below.refl _ _).setCell (p:=⟨b,i*3,none⟩) hb _).setCell (p:=⟨b,i*3+1,none⟩) hb _).setCell (p:=⟨b,i*3+2,none⟩) hb _
 ·rw[hg.cell,Array.getElem?_eq_getElem (by rw[hcs];omega)]
  rfl
theorem owl_clear16 {base b n c i:Nat}{w:World}{L:List Lc3}(h:OwR lcC 3 73 base w (some ⟨b,0,none⟩) n c L)(hi:i<n):
  ∃W,(∀ty dc,(Builtin.clear_ #[28] ty #[.slice (some ⟨b,i*3,none⟩) (n-i) dc]).run Tryz.prog w= .ok (.tuple #[]) W)/\OwR lcC 3 73 base W (some ⟨b,0,none⟩) i c (L.take i)/\Below base w W:=by
 obtain⟨g,cur,e,hb,hg,hnc,hcm,hcs,ht⟩:=h.has;injection e with e _ _
 subst e;have hl:=h.2;have hZ:(Builtin.zeroCells (Value.agg #[.int .i64 0,.int .i64 0,.int .i64 0]).cells (n-i)).toList.length=(n-i)*3:=by simp[Builtin.zeroCells,Value.cells]
 have hcl:cur.toList.length=c*3:=by rw[Array.length_toList,hcs]
 refine⟨w.setRow b (splL cur.toList (i*3) (Builtin.zeroCells (Value.agg #[.int .i64 0,.int .i64 0,.int .i64 0]).cells (n-i)).toList).toArray,fun ty dc=>?_,?_,qab (Below.refl _ _) hb _⟩
 ·refine qf2 w 28 73 ty _ Tryz.underlying28 zero_lock16 (by intro v hv;simp[Value.cells]at hv;subst hv;rfl) b (i*3) (n-i) dc cur hg ?_ (by omega)
  show i*3+(n-i)*3<=cur.size
  rw[hcs];omega
 ·have h1:OwR lcC 3 73 base w (some ⟨b,0,none⟩) i c (L.take i):=owl_take16 h (by omega)
  refine qfD hb (qaa hg _) (by omega) hcm (by rw[List.size_toArray,splL_len _ _ _ (by rw[hZ,hcl];omega),hcl]) (by rw[List.length_take,hl];omega) ?_;rw[List.toList_toArray,splL_take _ _ _ (by rw[hcl];omega)];rw[(qcp (by rw[hl];omega)).1,<-ht,List.take_take,Nat.min_eq_left (by omega)]
theorem odf_lo (p:Lc3->Bool)(l:List Lc3)(A:Option Addr)(n c base:Nat)(g:Nat)(w:World)(hs:OwR lcC 3 73 base w A n c l)(hbig:n<=1000)(hbase:base<=w.heap.size)
  (HE:Hid (∀(x:Lc3) W,Below base w W->Calls Tryz.prog 106 #[.agg (lcA x),.pointer (some ⟨g,0,none⟩)] W fun e w'=>e= .returned (.bool (p x))/\Below W.heap.size W w')):
  Calls Tryz.prog 179 #[.slice A n c,.func (.func 106) #[] #[.pointer (some ⟨g,0,none⟩)]] w fun e w'=> ∃k,e= .returned (.slice A k c)/\OwR lcC 3 73 base w' A k c (l.filter fun k=>!p k)/\Below base w w':=by
 have HIX:=zq (oix_lo p l A n c g w hs.sl (by omega) (zq fun x W hW=>HE.out x W (hW.mono hbase)));have HLN:=zq hs.2;have HS:=zq hs;have HBS:=zq hbase
 rcases qbO p l 0 with⟨h1,h2⟩|⟨i,x,h1,h2,h3,h4⟩
 ·have HF:Hid (l.filter (fun k=>!p k)=l):=zq (by
   rw[List.filter_eq_self];intro y hy;obtain⟨k,hk,rfl⟩:=List.getElem_of_mem hy;rw[h2 k _ (List.getElem?_eq_getElem hk)]
   rfl)
  rw[show idxL p l= -1 from h1]at HIX;clear h1 h2 hs hbase HE;go_enter Tryz.func179,Tryz.ntmps179;go_wp2_with fail;refine HIX.out.mono ?_;rintro e w1 ⟨rfl,hb1⟩;have HO1:=zq (HS.out.under hb1);have HB1:=zq (hb1.mono HBS.out);clear hb1 HIX HS;go_wp2;go_ret
  exact⟨n,rfl,by rw[HF.out];exact HO1.out,HB1.out⟩
 ·have hin:i<n:=by have h_:=(List.getElem?_eq_some_iff.1 h1).1;have:=HLN.out;omega
  have HD0:=zq (del_start16 h1 h2 h3);have e0:idxL p l=(i:Int):=by unfold idxL;rw[h4];congr 1;omega
  rw[e0]at HIX;obtain⟨b,rfl,hbb,_⟩:=hs.some (by omega);have HCN:=zq hs.cap;have HBB:=zq hbb;have x0:(0:Int)<=i:=by omega
  have x1:(i:Int)<n:=by omega
  have x2:(n:Int)<=1000:=by omega
  have x3: ¬((i:Int)= -1):=by omega
  have HNB:=zq (show i+1<=n/\n<=1000 from⟨hin,hbig⟩);clear h1 h2 h3 h4 e0 hs hbase hin hbb hbig;go_enter Tryz.func179,Tryz.ntmps179;go_wp2_with fail;refine HIX.out.mono ?_;rintro e w1 ⟨rfl,hb1⟩;have HO1:=zq (HS.out.under hb1);have HB1:=zq (hb1.mono HBS.out);clear hb1 HIX HS;go_upto_region 5 with fail;clear x0 x1 x2 x3;go_loopg [5,6] n (fun kk v5 v6 wl=> ∃(i j:Nat) (L:List Lc3),j<=n/\n-j<=kk/\v5= .int .i64 i/\v6= .int .i64 j/\Hid (DelP16 p l L i j)/\Hid (OwR lcC 3 73 base wl (some ⟨b,0,none⟩) n c L)/\Hid (Below base w wl))
  case atStart=>exact⟨i,i+1,l,HNB.out.1,by omega,rfl,by first|rfl|(rw[IntWalk.wrap64_in _ (by have:=HNB.out;omega)];go_num)|go_num,HD0,HO1,HB1⟩
  clear HO1 HB1 HD0;obtain⟨i,j,L,hj,hjk,rfl,rfl,HD,HO,HB⟩:=hrel;obtain⟨k1,hk1⟩: ∃k1,k1=gk:=⟨_,rfl⟩
  subst hk1;obtain⟨wv,hwv⟩: ∃wv,wv=wr:=⟨_,rfl⟩
  subst hwv;by_cases hlt:j<n;rotate_left
  ·obtain rfl:j=n:=by omega
   have hdi:=HD.out.le;obtain⟨W,hcl,hoW,hbW⟩:=owl_clear16 HO.out hdi;have HF:Hid (L.take i=l.filter fun k=>!p k):=zq (by have h_:=HLN.out;have h2_:=HD.out;rw[<-h_]at h2_;exact del_end16 h2_);have HOW:=zq hoW;have HBW:=zq (HB.out.trans hbW);have y0:(0:Int)<=i:=by omega
   have y1:(i:Int)<=j:=by omega
   have y2:i<=j:=by omega
   have y3:j<=c:=HCN.out;have y4: ¬c=i:=by omega
   have y5:(j:Int)<=c:=by omega
   have y6:i<=c:=by omega
   have y7:(i:Int)<=c:=by omega
   have y8: ¬(j:Int)<j:=by omega
   clear hoW hbW hjk hlt hj hdi HD HO HB;go_wp2;go_ret
   exact⟨i,rfl,by rw[<-HF.out];exact HOW.out,HBW.out⟩
  obtain⟨x,hx⟩:=glZ l (j) (by rw[HLN.out];exact hlt);have HX:=zq hx;obtain⟨bk,off,e_,d0,d1,d2⟩:=HO.out.sl.lock (del_at16 HD.out hx);injection e_ with e_
  injection e_ with e1_ e2_ _
  subst e1_ e2_;rw[Nat.zero_add]at d0 d1 d2;have HIN:=zq (show j<n/\n-j<=k1 from⟨hlt,hjk⟩);have HDI:=zq (show i<n from by have:=HD.out.le;omega);have y0:(0:Int)<=j:=by omega
  have y1:(j:Int)<n:=by omega
  clear hx hjk hlt hj;obtain⟨kr,kt,kn⟩:=x;dsimp only at d0 d1 d2;go_upto_region 8 with fail;obtain⟨wb,hwb⟩:=geZ (wv.alloc (.cells #[.int .i64 kr,.int .i64 kt,.int .i64 kn] 73));rw[hwb];have hbb:Below base wv wb:=by rw[<-hwb];exact(Below.refl _ _).alloc (Nat.le_trans HBS.out HB.out.size) _
  have hH:Has wb wv.heap.size 73 #[.int .i64 kr,.int .i64 kt,.int .i64 kn]:=by rw[<-hwb];exact Has.made _ _ _
  have HBW:=zq (HB.out.trans hbb);have HOW:=zq (HO.out.under (show Below wv.heap.size wv wb from by rw[<-hwb];exact bA));obtain⟨gl,hgl⟩: ∃g,wv.heap.size=g:=⟨_,rfl⟩
  simp only[hgl]at hH⊢;have HH:=zq hH;clear hwb hbb hH hgl d0 d1 d2 HO HB;have HC:=zq (HE.out ⟨kr,kt,kn⟩ wb HBW.out);unfold lcA at HC;dsimp only at HC;obtain⟨q,hq⟩:=geZ (p ⟨kr,kt,kn⟩);rw[hq]at HC;have HQ:=zq hq;clear hq;go_wp2_with (with_reducible refine ldZ 27 HH.out ?_);refine HC.out.mono ?_;rintro e w2 ⟨rfl,hb2⟩;have HB2:=zq (HBW.out.trans (hb2.mono (Nat.le_trans HBS.out HBW.out.size)));have HO2:=zq (HOW.out.under hb2);have HH2:=uH HH hb2;clear hb2 HC HOW HBW HH
  cases q with
  |true=>
   have HD2:=zq (del_drop16 HD.out HX.out HQ.out);clear HD HX HQ HH2;go_wp2;go_roundg (k1-1)
   case measure=>have:=HIN.out;omega
   case rel=>exact⟨i,j+1,L,by have:=HIN.out;omega,by have:=HIN.out;omega,rfl,by rw[IntWalk.wrap64_in _ (by have h1_:=HIN.out;have h2_:=HNB.out;omega)];go_num,HD2,HO2,HB2⟩
  |false=>
   have HD2:=zq (del_keep16 HD.out HX.out HQ.out);have HST:=zq (owl_store16 HO2.out HDI.out ⟨kr,kt,kn⟩);unfold lcC at HST;dsimp only at HST;obtain⟨hs1,hs2,hs3⟩:=HST.out;have HO3:=zq hs1;have HB3:=zq (HB2.out.trans hs2);have HTH:Hid (w2.there b (i*3) (#[.int .i64 kr,.int .i64 kt,.int .i64 kn]:Array Value).size):=zq hs3;have z0:(0:Int)<=i:=by omega
   have z1:(i:Int)<n:=by have:=HDI.out;omega
   clear HD HX HQ hs1 hs2 hs3 HST HO2;go_wp2_with (first|(with_reducible refine ldZ 32 HH2.out ?_)|(with_reducible refine wpList_store_mid (op:=⟨none,_,_,_,_,_⟩) rfl 73 _ _ rfl b (i*3) #[.int .i64 kr,.int .i64 kt,.int .i64 kn] rfl rfl HTH.out (by kernel_rfl) (by kernel_rfl) ?_));go_roundg (k1-1)
   case measure=>have:=HIN.out;omega
   case rel=>exact⟨i+1,j+1,L.set i ⟨kr,kt,kn⟩,by have:=HIN.out;omega,by have:=HIN.out;omega,by rw[IntWalk.wrap64_in _ (by have h1_:=HDI.out;have h2_:=HNB.out;omega)];go_num,by rw[IntWalk.wrap64_in _ (by have h1_:=HIN.out;have h2_:=HNB.out;omega)];go_num,HD2,HO3,HB3⟩
theorem owo_lo (p:Lc3->Bool)(l:List Lc3)(A:Option Addr)(n c:Nat)(g:Nat)(w:World)(hs:SlO lcC 3 w A n c l)(hn:n<=1000)
  (HE:Hid (∀(x:Lc3) W,Below w.heap.size w W->Calls Tryz.prog 106 #[.agg (lcA x),.pointer (some ⟨g,0,none⟩)] W fun e w'=>e= .returned (.bool (p x))/\Below W.heap.size W w')):
  Calls Tryz.prog 105 #[.slice A n c,.func (.func 106) #[] #[.pointer (some ⟨g,0,none⟩)]] w fun e w'=> ∃X k x,e= .returned (.slice X k x)/\OwR lcC 3 73 w.heap.size w' X k x (l.filter fun k=>!p k)/\Below w.heap.size w w':=by
 have H:=zq (oclonel_any A n c l w hs hn);have HN:=zq hn;clear hs hn;go_enter Tryz.func105,Tryz.ntmps105;go_wp2_with fail;refine H.out.mono ?_;rintro e w1 ⟨X,x,rfl,ho1,hb1⟩;have HO1:=zq ho1;have HB1:=zq hb1;clear ho1 hb1 H;go_wp2_with fail;refine(odf_lo p l X n x w.heap.size g w1 HO1.out HN.out HB1.out.size (zq fun y W hW=>HE.out y W (HB1.out.trans hW))).mono ?_;rintro e w2 ⟨k,rfl,ho2,hb2⟩;have HO2:=zq ho2;have HB2:=zq (HB1.out.trans hb2);clear ho2 hb2 HO1 HB1;go_wp2;go_ret
 exact⟨X,k,x,rfl,HO2.out,HB2.out⟩
theorem of_eq16 (l:List Lc3)(train:Int):(l.filter fun k=>!(!(k.train==train)))=ofL l train:=by
 unfold ofL
 congr 1
 funext k
 rw[Bool.not_not]
theorem oolof_any (l:List Lc3)(train:Int)(A:Option Addr)(n c:Nat)(w:World)(hs:SlO lcC 3 w A n c l)(hn:n<=1000):
  Calls Tryz.prog 40 #[.slice A n c,.int .i64 train] w fun r w'=> ∃X k x,r= .returned (.slice X k x)/\LkT w' X k x (ofL l train)/\Below w.heap.size w w':=by
 obtain⟨wa,hwa,hbwa,HWA,HBWA,h0⟩:=bx1Z w 3 #[.int .i64 train];have n0:wa.cell? ⟨w.heap.size,0,none⟩=some (.int .i64 train):=h0.cell 0;have H:=zq (owo_lo (fun k=>!(k.train==train)) l A n c (w.heap.size) wa (hs.under hbwa) hn (zq fun x W hW=>olco_any x train (w.heap.size) W ((hW.cell (qah n0)).trans n0)));rw[of_eq16]at H;generalize ofL l train=R at*;clear hwa hbwa h0 hs n0 hn;go_enter Tryz.func40,Tryz.ntmps40;go_upto_region 1 with fail;rw[HWA.out];clear HWA;go_wp2_with fail;refine H.out.mono ?_;rintro e_ w1 ⟨X,k,x,rfl,ho1,hb1⟩;have HO1:=zq (LkT.of_own ho1);have HB1:=tB HBWA hb1;clear hb1 ho1 H HBWA;go_wp2;go_ret
 exact⟨X,k,x,rfl,HO1.out,HB1.out⟩
end
section
open Go.RowKit
open Go.Great
theorem find_some17 {α:Type}{p:α->Bool}{l:List α}{i:Nat}{x:α}(hx:l[i]?=some x)(hp:p x=true)(hno: ∀j y,j<i->l[j]?=some y->p y=false):l.find? p=some x:=by
 rw[List.find?_eq_some_iff_append];obtain⟨hi,e⟩:=List.getElem?_eq_some_iff.1 hx;refine⟨hp,l.take i,l.drop (i+1),?_,fun y hy=>?_⟩
 ·rw[<-e,<-List.drop_eq_getElem_cons hi,List.take_append_drop]
 ·obtain⟨j,hj,rfl⟩:=List.getElem_of_mem hy
  rw[List.length_take]at hj;rw[List.getElem_take,hno j _ (by omega) (List.getElem?_eq_getElem (by omega))]
  rfl
theorem chain_next17 {t:Tp3}{l:List Lc3}{train:Int}{s:St3}{k:Nat}{q:List Lc3}{y:Lc3}(hk:k<8)(h:l.find? (okC t train s q)=some y):qb5 t l train s (8-k) q=qb5 t l train s (8-(k+1)) (q++[y]):=by
 rw[show 8-k=(8-(k+1))+1 by omega,qb5,h]
theorem qeE {t:Tp3}{l:List Lc3}{train:Int}{s:St3}{k:Nat}{q:List Lc3}(h: ¬k<8\/l.find? (okC t train s q)=none):qb5 t l train s (8-k) q=q:=by
 cases hq:8-k with
 |zero=>rfl
 |succ j=>
  rcases h with h|h
  ·omega
  ·rw[qb5,h]
theorem okC_rt {t:Tp3}{train:Int}{s:St3}{q:List Lc3}{y:Lc3}(h:okC t train s q y=true):(qaS t y.route).isSome=true:=by
 unfold okC at h;simp only[Bool.and_eq_true]at h;exact h.1.2
theorem path_some17 {t:Tp3}(hc:qaE t=0){id:Int}(h:(qaS t id).isSome=true):1<=(pathR t id).length:=by
 obtain⟨r,h1,h2,h3⟩:=qcG hc h;rw[h2];have h4:=(qd6 h3).2.1;omega
theorem last_at17 {l:List St3}(h:1<=l.length):l[l.length-1]?=some (lastS l):=by
 unfold lastS;rw[List.getLastD_eq_getLast?,List.getLast?_eq_getElem?,List.getElem?_eq_getElem (by omega)]
 rfl
end
section
structure VRow where
 name:ByteArray
 width:Nat
 most:Int
 special:Int
def vrows:List VRow:=[
 ⟨⟨#[78,73,68,95,77,69,83,83,65,71,69]⟩,8,-1,-1⟩,
 ⟨⟨#[76,95,77,69,83,83,65,71,69]⟩,10,-1,-1⟩,
 ⟨⟨#[84,95,84,82,65,73,78]⟩,32,-1,-1⟩,
 ⟨⟨#[77,95,65,67,75]⟩,1,-1,-1⟩,
 ⟨⟨#[78,73,68,95,76,82,66,71]⟩,24,-1,-1⟩,
 ⟨⟨#[78,73,68,95,80,65,67,75,69,84]⟩,8,-1,-1⟩,
 ⟨⟨#[81,95,68,73,82]⟩,2,2,-1⟩,
 ⟨⟨#[76,95,80,65,67,75,69,84]⟩,13,-1,-1⟩,
 ⟨⟨#[81,95,83,67,65,76,69]⟩,2,2,-1⟩,
 ⟨⟨#[78,73,68,95,69,78,71,73,78,69]⟩,24,-1,-1⟩,
 ⟨⟨#[78,73,68,95,67]⟩,10,-1,-1⟩,
 ⟨⟨#[78,73,68,95,66,71]⟩,14,-1,-1⟩,
 ⟨⟨#[81,95,78,69,87,67,79,85,78,84,82,89]⟩,1,-1,-1⟩,
 ⟨⟨#[68,95,76,82,66,71]⟩,15,-1,-1⟩,
 ⟨⟨#[81,95,68,73,82,76,82,66,71]⟩,2,2,-1⟩,
 ⟨⟨#[81,95,68,76,82,66,71]⟩,2,2,-1⟩,
 ⟨⟨#[76,95,68,79,85,66,84,79,86,69,82]⟩,15,-1,-1⟩,
 ⟨⟨#[76,95,68,79,85,66,84,85,78,68,69,82]⟩,15,-1,-1⟩,
 ⟨⟨#[81,95,76,69,78,71,84,72]⟩,2,-1,-1⟩,
 ⟨⟨#[76,95,84,82,65,73,78,73,78,84]⟩,15,-1,-1⟩,
 ⟨⟨#[86,95,84,82,65,73,78]⟩,7,120,127⟩,
 ⟨⟨#[81,95,68,73,82,84,82,65,73,78]⟩,2,2,-1⟩,
 ⟨⟨#[77,95,77,79,68,69]⟩,4,14,-1⟩,
 ⟨⟨#[77,95,76,69,86,69,76]⟩,3,4,-1⟩,
 ⟨⟨#[78,73,68,95,78,84,67]⟩,8,-1,-1⟩,
 ⟨⟨#[86,95,69,77,65]⟩,7,120,-1⟩,
 ⟨⟨#[84,95,69,77,65]⟩,10,-1,-1⟩,
 ⟨⟨#[78,95,73,84,69,82]⟩,5,-1,-1⟩,
 ⟨⟨#[76,95,83,69,67,84,73,79,78]⟩,15,-1,-1⟩,
 ⟨⟨#[81,95,83,69,67,84,73,79,78,84,73,77,69,82]⟩,1,-1,-1⟩,
 ⟨⟨#[84,95,83,69,67,84,73,79,78,84,73,77,69,82]⟩,10,-1,-1⟩,
 ⟨⟨#[68,95,83,69,67,84,73,79,78,84,73,77,69,82,83,84,79,80,76,79,67]⟩,15,-1,-1⟩,
 ⟨⟨#[76,95,69,78,68,83,69,67,84,73,79,78]⟩,15,-1,-1⟩,
 ⟨⟨#[81,95,69,78,68,84,73,77,69,82]⟩,1,-1,-1⟩,
 ⟨⟨#[84,95,69,78,68,84,73,77,69,82]⟩,10,-1,-1⟩,
 ⟨⟨#[68,95,69,78,68,84,73,77,69,82,83,84,65,82,84,76,79,67]⟩,15,-1,-1⟩,
 ⟨⟨#[81,95,68,65,78,71,69,82,80,79,73,78,84]⟩,1,-1,-1⟩,
 ⟨⟨#[68,95,68,80]⟩,15,-1,-1⟩,
 ⟨⟨#[86,95,82,69,76,69,65,83,69,68,80]⟩,7,120,126⟩,
 ⟨⟨#[81,95,79,86,69,82,76,65,80]⟩,1,-1,-1⟩,
 ⟨⟨#[68,95,83,84,65,82,84,79,76]⟩,15,-1,-1⟩,
 ⟨⟨#[84,95,79,76]⟩,10,-1,-1⟩,
 ⟨⟨#[68,95,79,76]⟩,15,-1,-1⟩,
 ⟨⟨#[86,95,82,69,76,69,65,83,69,79,76]⟩,7,120,126⟩,
 ⟨⟨#[68,95,76,73,78,75]⟩,15,-1,-1⟩,
 ⟨⟨#[81,95,76,73,78,75,79,82,73,69,78,84,65,84,73,79,78]⟩,1,-1,-1⟩,
 ⟨⟨#[81,95,76,73,78,75,82,69,65,67,84,73,79,78]⟩,2,2,-1⟩,
 ⟨⟨#[81,95,76,79,67,65,67,67]⟩,6,-1,-1⟩,
 ⟨⟨#[68,95,71,82,65,68,73,69,78,84]⟩,15,-1,-1⟩,
 ⟨⟨#[81,95,71,68,73,82]⟩,1,-1,-1⟩,
 ⟨⟨#[71,95,65]⟩,8,-1,-1⟩,
 ⟨⟨#[68,95,83,84,65,84,73,67]⟩,15,-1,-1⟩,
 ⟨⟨#[86,95,83,84,65,84,73,67]⟩,7,120,127⟩,
 ⟨⟨#[81,95,70,82,79,78,84]⟩,1,-1,-1⟩,
 ⟨⟨#[78,67,95,68,73,70,70]⟩,4,-1,-1⟩,
 ⟨⟨#[86,95,68,73,70,70]⟩,7,120,-1⟩,
 ⟨⟨#[68,95,77,65,77,79,68,69]⟩,15,-1,-1⟩,
 ⟨⟨#[77,95,77,65,77,79,68,69]⟩,2,2,-1⟩,
 ⟨⟨#[86,95,77,65,77,79,68,69]⟩,7,120,127⟩,
 ⟨⟨#[76,95,77,65,77,79,68,69]⟩,15,-1,-1⟩,
 ⟨⟨#[76,95,65,67,75,77,65,77,79,68,69]⟩,15,-1,-1⟩,
 ⟨⟨#[81,95,77,65,77,79,68,69]⟩,1,-1,-1⟩,
 ⟨⟨#[81,95,82,66,67]⟩,1,-1,-1⟩,
 ⟨⟨#[78,73,68,95,82,66,67]⟩,14,-1,-1⟩,
 ⟨⟨#[78,73,68,95,82,65,68,73,79]⟩,32,-1,-1⟩,
 ⟨⟨#[81,95,83,76,69,69,80,83,69,83,83,73,79,78]⟩,1,-1,-1⟩,
 ⟨⟨#[84,95,77,65,82]⟩,8,-1,-1⟩,
 ⟨⟨#[84,95,84,73,77,69,79,85,84,82,81,83,84]⟩,10,-1,-1⟩,
 ⟨⟨#[84,95,67,89,67,82,81,83,84]⟩,8,-1,-1⟩,
 ⟨⟨#[84,95,67,89,67,76,79,67]⟩,8,-1,-1⟩,
 ⟨⟨#[68,95,67,89,67,76,79,67]⟩,15,-1,-1⟩,
 ⟨⟨#[77,95,76,79,67]⟩,3,2,-1⟩,
 ⟨⟨#[68,95,76,79,67]⟩,15,-1,-1⟩,
 ⟨⟨#[81,95,76,71,84,76,79,67]⟩,1,-1,-1⟩,
 ⟨⟨#[78,73,68,95,80,82,86,76,82,66,71]⟩,24,-1,-1⟩,
 ⟨⟨#[78,73,68,95,79,80,69,82,65,84,73,79,78,65,76]⟩,32,-1,-1⟩,
 ⟨⟨#[78,67,95,84,82,65,73,78]⟩,15,-1,-1⟩,
 ⟨⟨#[76,95,84,82,65,73,78]⟩,12,-1,-1⟩,
 ⟨⟨#[86,95,77,65,88,84,82,65,73,78]⟩,7,120,-1⟩,
 ⟨⟨#[77,95,76,79,65,68,73,78,71,71,65,85,71,69]⟩,8,-1,-1⟩,
 ⟨⟨#[77,95,65,88,76,69,76,79,65,68]⟩,7,-1,-1⟩,
 ⟨⟨#[77,95,65,73,82,84,73,71,72,84]⟩,2,1,-1⟩,
 ⟨⟨#[77,95,84,82,65,67,84,73,79,78]⟩,8,-1,-1⟩,
 ⟨⟨#[78,73,68,95,83,84,77]⟩,8,-1,-1⟩,
 ⟨⟨#[68,95,86,65,76,73,68,78,86]⟩,15,-1,-1⟩,
 ⟨⟨#[86,95,78,86,83,72,85,78,84]⟩,7,120,-1⟩,
 ⟨⟨#[84,95,78,86,67,79,78,84,65,67,84]⟩,8,-1,-1⟩,
 ⟨⟨#[77,95,78,86,67,79,78,84,65,67,84]⟩,2,2,-1⟩,
 ⟨⟨#[78,73,68,95,69,77]⟩,4,-1,-1⟩,
 ⟨⟨#[68,95,82,69,70]⟩,16,-1,-1⟩,
 ⟨⟨#[68,95,69,77,69,82,71,69,78,67,89,83,84,79,80]⟩,15,-1,-1⟩,
 ⟨⟨#[81,95,69,77,69,82,71,69,78,67,89,83,84,79,80]⟩,2,-1,-1⟩,
 ⟨⟨#[77,95,86,69,82,83,73,79,78]⟩,7,-1,-1⟩,
 ⟨⟨#[81,95,83,84,65,84,85,83]⟩,2,-1,-1⟩,
 ⟨⟨#[81,95,77,65,82,81,83,84,82,69,65,83,79,78]⟩,5,-1,-1⟩,
 ⟨⟨#[68,95,83,82]⟩,15,-1,-1⟩]
def vnone:VRow:=⟨ByteArray.empty,0,0,0⟩
def vrow (v:Int):VRow:=if 0<=v/\v<96 then vrows.getD v.toNat vnone else vnone
theorem vrow_in {v:Int}(h:0<=v/\v<96):vrow v=vrows.getD v.toNat vnone:=if_pos h
theorem qe5 {v:Int}(h: ¬(0<=v/\v<96)):vrow v=vnone:=if_neg h
theorem vrows_length:vrows.length=96:=by decide
def qak (v:Int):Nat:=(vrow v).width
def qbu (v:Int):Int:=if(vrow v).most<0 then 2^qak v-1 else(vrow v).most
def qbv (v:Int):Int:=if(vrow v).special<0 then 0 else(vrow v).special
def qbe (v:Int):Int:=2^qak v-1
def mayOf (v n:Int):Bool:=decide (0<=v/\v<96) &&decide (0<=n) &&(decide (n<=qbu v)||(decide (qbv v≠0) &&decide (qbv v<=n) &&decide (n<=qbe v)))
theorem vall (p:Nat->Bool)(h:(List.range 96).all p=true)(v:Int)(h0:0<=v)(h1:v<96):p v.toNat=true:=
 List.all_eq_true.1 h v.toNat (List.mem_range.2 (by omega))
end
section
open Go.RowKit
def Wd (w:World):Prop:= ∀i,i<96->w.cell? ⟨0,i,none⟩=some (.int .i64 (((vrows.getD i vnone).width:Nat):Int))
theorem Wd.under {w w':World}(h:Wd w)(hb:Below w.heap.size w w'):Wd w':=fun i hi=>by
 rw[hb.cell (qah (h i hi))];exact h i hi
theorem qcy (v:Int)(h0:0<=v)(h1:v<96)(w:World):
  Calls Tryz.prog 242 #[.int .i64 v] w fun e w'=>e= .returned (.bool true)/\w=w':=by
 go_enter Tryz.func242,Tryz.ntmps242;go_wp2;go_ret
 exact⟨rfl,rfl⟩
theorem exists_no (v:Int)(h: ¬(0<=v/\v<96))(w:World):
  Calls Tryz.prog 242 #[.int .i64 v] w fun e w'=>e= .returned (.bool false)/\w=w':=by
 by_cases h0:0<=v
 ·have h1: ¬v<96:=by omega
  clear h;go_enter Tryz.func242,Tryz.ntmps242;go_wp2;go_ret
  exact⟨rfl,rfl⟩
 ·clear h
  go_enter Tryz.func242,Tryz.ntmps242;go_wp2;go_ret
  exact⟨rfl,rfl⟩
theorem qec (v:Int)(w:World)(hw:Wd w):
  Calls Tryz.prog 212 #[.int .i64 v] w fun e w'=>e= .returned (.int .i64 ((qak v:Nat):Int))/\w=w':=by
 by_cases h:0<=v/\v<96
 ·have hc:=hw v.toNat (by omega)
  rw[qak,vrow_in h];generalize (vrows.getD v.toNat vnone).width=W at*;obtain⟨h0,h1⟩:=h;have HW:=zq hw;clear hw;go_enter Tryz.func212,Tryz.ntmps212;go_wp2_with fail;refine(qcy v h0 h1 w).mono ?_;rintro e w' ⟨rfl,rfl⟩;go_wp2;go_ret
  exact⟨rfl,rfl⟩
 ·rw[qak,qe5 h]
  have H:=zq h;clear h hw;go_enter Tryz.func212,Tryz.ntmps212;go_wp2_with fail;refine(exists_no v H.out w).mono ?_;rintro e w' ⟨rfl,rfl⟩;go_wp2;go_ret
  exact⟨rfl,rfl⟩
theorem qe6 (v:Int):qak v<=32:=by
 by_cases h:0<=v/\v<96
 ·have:=vall (fun i=>decide ((vrows.getD i vnone).width<=32)) (by decide+kernel) v h.1 h.2
  rw[qak,vrow_in h];exact of_decide_eq_true this
 ·rw[qak,qe5 h];decide
theorem qeJ (v:Int)(w:World)(hw:Wd w):
  Calls Tryz.prog 265 #[.int .i64 v] w fun e w'=>e= .returned (.int .i64 (qbe v))/\w=w':=by
 have hle:=qe6 v;have c:=qec v w hw;rw[qbe];generalize qak v=W at*;obtain⟨P,hP⟩: ∃P,P=2^W:=⟨_,rfl⟩
 have hP1:1<=P:=by rw[hP];exact Nat.one_le_two_pow
 have hP2:P<=2^32:=by rw[hP];exact Nat.pow_le_pow_right (by omega) hle
 have e:((2:Int)^W)=(P:Int):=by rw[hP];simp
 rw[e];have C:=zq c;clear c;have HP:=zq hP;clear hP;have HW:=zq hw;clear hw;go_enter Tryz.func265,Tryz.ntmps265;go_wp2_with fail;refine C.out.mono ?_;rintro e w' ⟨rfl,rfl⟩;go_wp2;go_ret
 exact⟨rfl,rfl⟩
theorem special_none (v:Int)(h: ¬(v=38\/v=43\/v=20\/v=52\/v=58)):qbv v=0:=by
 by_cases hv:0<=v/\v<96
 ·have:=vall (fun i=>decide ((vrows.getD i vnone).special<0\/i=38\/i=43\/i=20\/i=52\/i=58)) (by decide+kernel) v hv.1 hv.2
  have:=of_decide_eq_true this;rw[qbv,vrow_in hv,if_pos (by omega)]
 ·rw[qbv,qe5 hv];rfl
theorem special_any (v:Int)(w:World):
  Calls Tryz.prog 263 #[.int .i64 v] w fun e w'=>e= .returned (.int .i64 (qbv v))/\w=w':=by
 by_cases h:v=38\/v=43\/v=20\/v=52\/v=58
 ·rcases h with rfl|rfl|rfl|rfl|rfl
  all_goals
   go_enter Tryz.func263,Tryz.ntmps263;go_wp2;go_ret
   exact⟨by kernel_rfl,rfl⟩
 ·rw[special_none v h]
  have h1:v≠38:=by omega
  have h2:v≠43:=by omega
  have h3:v≠20:=by omega
  have h4:v≠52:=by omega
  have h5:v≠58:=by omega
  clear h;go_enter Tryz.func263,Tryz.ntmps263;go_wp2;go_ret
  exact⟨rfl,rfl⟩
theorem most_else (v:Int)(h: ¬(v=81\/v=6\/v=8\/v=14\/v=15\/v=21\/v=46\/v=57\/v=71\/v=87\/v=23\/v=22\/v=20\/v=25\/v=38\/v=43\/v=52\/v=55\/v=58\/v=78\/v=85)):qbu v=qbe v:=by
 by_cases hv:0<=v/\v<96
 ·have:=vall (fun i=>decide ((vrows.getD i vnone).most<0\/i=81\/i=6\/i=8\/i=14\/i=15\/i=21\/i=46\/i=57\/i=71\/i=87\/i=23\/i=22\/i=20\/i=25\/i=38\/i=43\/i=52\/i=55\/i=58\/i=78\/i=85)) (by decide+kernel) v hv.1 hv.2
  have:=of_decide_eq_true this;rw[qbu,vrow_in hv,if_pos (by omega),qbe]
 ·rw[qbu,qbe,qak,qe5 hv];rfl
theorem most_any (v:Int)(w:World)(hw:Wd w):
  Calls Tryz.prog 264 #[.int .i64 v] w fun e w'=>e= .returned (.int .i64 (qbu v))/\w=w':=by
 by_cases h:v=81\/v=6\/v=8\/v=14\/v=15\/v=21\/v=46\/v=57\/v=71\/v=87\/v=23\/v=22\/v=20\/v=25\/v=38\/v=43\/v=52\/v=55\/v=58\/v=78\/v=85
 ·clear hw
  rcases h with rfl|rfl|rfl|rfl|rfl|rfl|rfl|rfl|rfl|rfl|rfl|rfl|rfl|rfl|rfl|rfl|rfl|rfl|rfl|rfl|rfl
  all_goals
   go_enter Tryz.func264,Tryz.ntmps264;go_wp2;go_ret
   exact⟨by kernel_rfl,rfl⟩
 ·rw[most_else v h]
  have c:=qeJ v w hw;generalize qbe v=G at*;have C:=zq c;clear c hw;have h81:v≠81:=by omega
  have h6:v≠6:=by omega
  have h8:v≠8:=by omega
  have h14:v≠14:=by omega
  have h15:v≠15:=by omega
  have h21:v≠21:=by omega
  have h46:v≠46:=by omega
  have h57:v≠57:=by omega
  have h71:v≠71:=by omega
  have h87:v≠87:=by omega
  have h23:v≠23:=by omega
  have h22:v≠22:=by omega
  have h20:v≠20:=by omega
  have h25:v≠25:=by omega
  have h38:v≠38:=by omega
  have h43:v≠43:=by omega
  have h52:v≠52:=by omega
  have h55:v≠55:=by omega
  have h58:v≠58:=by omega
  have h78:v≠78:=by omega
  have h85:v≠85:=by omega
  clear h;go_enter Tryz.func264,Tryz.ntmps264;go_wp2_with fail;refine C.out.mono ?_;rintro e w' ⟨rfl,rfl⟩;go_wp2;go_ret
  exact⟨rfl,rfl⟩
end
namespace BitsM
def num (l:List Bool):Nat:=l.foldl (fun a b=>2*a+b.toNat) 0
theorem num_snoc (l:List Bool)(b:Bool):num (l++[b])=2*num l+b.toNat:=by simp[num,List.foldl_append]
theorem list_snoc_ind {p:List Bool->Prop}(h0:p [])(h1: ∀l b,p l->p (l++[b])): ∀l,p l:=by
 intro l;have: ∀n,∀l:List Bool,l.length=n->p l:=by
  intro n
  induction n with
  |zero=>intro l hl;have:l=[]:=List.eq_nil_of_length_eq_zero hl;subst this;exact h0
  |succ n ih=>
   intro l hl;have hne:l≠[]:=by intro e;subst e;simp at hl
   rw[<-List.dropLast_concat_getLast hne];exact h1 _ _ (ih _ (by simp;omega))
 exact this _ l rfl
theorem qdG (l:List Bool): ∀j,(num l).testBit j=(decide (j<l.length) &&l.getD (l.length-1-j) false):=by
 refine list_snoc_ind (p:=fun l=> ∀j,(num l).testBit j=(decide (j<l.length) &&l.getD (l.length-1-j) false)) (by intro j;simp[num]) (fun l b ih j=>?_) l;rw[num_snoc]
 cases j with
 |zero=>
  rw[Nat.testBit_zero]
  cases b<;>simp[Nat.add_mod]
 |succ j=>
  rw[Nat.testBit_succ];have e:(2*num l+b.toNat)/2=num l:=by cases b<;>simp<;>omega
  rw[e,ih j];simp only[List.length_append,List.length_singleton];by_cases hj:j<l.length
  ·have h1:l.length+1-1-(j+1)=l.length-1-j:=by omega
   rw[h1];have h2:l.length-1-j<l.length:=by omega
   simp[hj,List.getD_eq_getElem?_getD,List.getElem?_append_left h2]
  ·simp[hj]
theorem num_eq_of {l:List Bool}{n:Nat}(hn:n<2^l.length)(h: ∀j,j<l.length->n.testBit j=l.getD (l.length-1-j) false):num l=n:=by
 apply Nat.eq_of_testBit_eq
 intro j;rw[qdG];by_cases hj:j<l.length
 ·simp[hj,h j hj]
 ·have:n.testBit j=false:=Nat.testBit_lt_two_pow (Nat.lt_of_lt_of_le hn (Nat.pow_le_pow_right (by omega) (by omega)))
  simp[hj,this]
def wbits (n w j:Nat):List Bool:=(List.range j).map fun k=>n.testBit (w-1-k)
theorem qaJ (n w j:Nat):(wbits n w j).length=j:=by simp[wbits]
theorem qez (n w j i:Nat)(h:i<j):(wbits n w j).getD i false=n.testBit (w-1-i):=by
 simp[wbits,List.getD_eq_getElem?_getD,h]
theorem num_wbits (n w:Nat)(h:n<2^w):num (wbits n w w)=n:=by
 apply num_eq_of
 ·simpa[qaJ]using h
 ·intro j hj
  rw[qaJ]at hj⊢;rw[qez _ _ _ _ (by omega)]
  congr 1
  omega
end BitsM
section
open Go.ChangeShapes Go.WideShapes Go.ChangeAt Go.RowKit Go.Deep
def InInts (k:IntKind)(w:World)(A:Option Addr)(n:Nat)(zs:List Int):Prop:=
 zs.length=n/\n<=maxLen/\(0<n-> ∃ad:Addr,A=some ad/\ ∀i,i<n->w.cell? (ad.add i)=some (.int k (zs.getD i 0)))/\ ∀z∈zs,(Lit.int k z).wf=true
end
section
open Go.RowKit Go.ChangeAt
def u8s (l:List Nat):List Value:=l.map fun(n:Nat)=>Value.int .u8 (n:Int)
def At8 (w:World)(A:Option Addr)(xs:List Nat):Prop:=0<xs.length-> ∃ad,A=some ad/\ ∀j v,(u8s xs)[j]?=some v->w.cell? (ad.add j)=some v
def InBytes (w:World)(A:Option Addr)(n:Nat)(xs:List Nat):Prop:=xs.length=n/\n<=maxLen/\At8 w A xs/\ ∀x∈xs,x<256
theorem InInts.bytes {w:World}{A:Option Addr}{n:Nat}{zs:List Int}(h:InInts .u8 w A n zs):InBytes w A n (zs.map Int.toNat):=by
 obtain⟨hl,hm,hc,hwz⟩:=h;have hb: ∀z∈zs,0<=z/\z<=255:=fun z hz=>by have:=hwz z hz;simpa[Lit.wf,IntKind.min,IntKind.max,IntKind.signed,IntKind.bits]using this
 refine⟨by simpa using hl,hm,fun hpos=>?_,fun x hx=>?_⟩
 ·obtain⟨ad,e,hcell⟩:=hc (by simp at hpos;omega)
  refine⟨ad,e,fun j v hv=>?_⟩;have hj:j<n:=by
   have:=(List.getElem?_eq_some_iff.1 hv).1;simp[u8s]at this;omega
  have hj':j<zs.length:=by omega
  rw[hcell j hj,<-hv];have:=hb zs[j] (List.getElem_mem _);simp[u8s,List.getD_eq_getElem?_getD,hj'];omega
 ·simp only[List.mem_map]at hx
  obtain⟨z,hz,rfl⟩:=hx;have:=hb z hz;omega
end
section
open Go.RowKit
open BitsM
def bools (l:List Bool):List Value:=l.map Value.bool
theorem qeC (l:List Bool):(bools l).length=l.length:=by simp[bools]
def SlB (w:World)(A:Option Addr)(m c:Nat)(bs:List Bool):Prop:=bs.length=m/\Sl w 1 A m c (bools bs)
theorem SlB.under {w w':World}{A:Option Addr}{m c:Nat}{bs:List Bool}(h:SlB w A m c bs)(hb:Below w.heap.size w w'):SlB w' A m c bs:=⟨h.1,h.2.under hb⟩
theorem SlB.grow {w w':World}{A:Option Addr}{m c:Nat}{bs:List Bool}{g:Nat}{t:TypeId}{cs:Array Value}(h:SlB w A m c bs)(hg:w.grownBy w' (some g))(hh:Has w g t cs)(hn: ∀v∈cs,∀b,v≠ .bool b):SlB w' A m c bs:=by
 refine⟨h.1,h.2.1,h.2.2.1,fun ad ha j u hu=>?_⟩;have h0:=h.2.2.2 ad ha j u hu;have hblk:=qah h0;have hne:(ad.add j).block≠g:=by
  intro e;clear hblk;generalize ad.add j=a at h0 e;obtain⟨b,off,spot⟩:=a;have e':b=g:=e;subst e';have hs:spot=none:=World.cell?_spot h0;subst hs;rw[hh.cell]at h0;have hmem:=Array.mem_of_getElem? h0;have hu':u∈bools bs:=List.mem_of_getElem? hu;simp only[bools,List.mem_map]at hu';obtain⟨b,_,rfl⟩:=hu';exact hn _ hmem b rfl
 rw[World.cell?_of_block (hg.block (ad.add j).block hblk (fun e=>hne (by injection e)))];exact h0
end
section
open Go.RowKit
open BitsM
theorem SlB.cut {w:World}{A:Option Addr}{m c:Nat}{bs:List Bool}(h:SlB w A m c bs)(hmc:m<=c){k:Nat}(hk:k<=m)(b off:Nat)(hA:A=some ⟨b,off,none⟩):
  SlB w (if c=k then some ⟨b,off,none⟩else some ⟨b,off+k,none⟩) (m-k) (c-k) (bs.drop k):=by
 have hl:=h.1;refine⟨by rw[List.length_drop];omega,by rw[qeC,List.length_drop];omega,fun e=>?_,fun ad ha j u hu=>?_⟩
 ·split at e<;>cases e
 ·have hu':(bools bs)[k+j]?=some u:=by
   unfold bools at hu⊢;rw[List.getElem?_map,List.getElem?_drop]at hu;rw[List.getElem?_map];exact hu
  have hj:k+j<bs.length:=by
   have:=(List.getElem?_eq_some_iff.1 hu').1
   rwa [qeC]at this
  have hck:c≠k:=by omega
  rw[if_neg hck]at ha;injection ha with ha
  subst ha;have h0:=h.2.2.2 _ hA (k+j) u hu';rw[WideShapes.add_plain]at h0⊢;rw[Nat.add_assoc];exact h0
end
section
open Go.RowKit
theorem cut_from {P:Program}(t e:TypeId)(h:P.underlying t=some (.slice e))(_he:P.elem t=e)(hs:(P.info? e).map (·.size)=some 1)(A:Option Addr)(n c p:Nat)(hp:p<=n)(w:World):
  (Instr.sliceAt t (.slice A n c) (some (.int .i64 (p:Nat))) none none).run P w= .ok (.slice (if c=p then A else A.map (·.add (p*1))) (n-p) (c-p)) w:=by
 have e1:(sizeOf e).run P w= .ok 1 w:=by
  cases hi:P.info? e with
  |none=>rw[hi]at hs;cases hs
  |some i=>
   rw[hi]at hs;simp only[Option.map_some,Option.some.injEq]at hs;simp[sizeOf,run_typeInfo _ hi,hs]
 have h0:(0:Int)<=(p:Nat):=by omega
 have h1:((p:Nat):Int)<=(n:Nat):=by omega
 simp[Instr.sliceAt,Instr.slice,run_underlying h,Instr.sliceBounds,run_sliceBound,h0,h1,e1]
theorem Sl.from_ {w:World}{A:Option Addr}{n c:Nat}{vs:List Value}(h:Sl w 1 A n c vs)(hc:n<=c){p:Nat}(hp:p<=n):Sl w 1 (if c=p then A else A.map (·.add (p*1))) (n-p) (c-p) (vs.drop p):=by
 have hl:vs.length=n:=by have:=h.1;omega
 refine⟨by rw[List.length_drop];omega,fun e=>?_,fun ad ha j u hu=>?_⟩
 ·cases A with
  |none=>have:=h.2.1 rfl;omega
  |some a=>
   rw[Option.map_some]at e;split at e<;>cases e
 ·have hj:j<n-p:=by
   have:=(List.getElem?_eq_some_iff.1 hu).1;rw[List.length_drop]at this;omega
  rw[List.getElem?_drop]at hu;rw[if_neg (by omega)]at ha
  cases A with
  |none=>cases ha
  |some a=>
   rw[Option.map_some]at ha;injection ha with ha
   subst ha;have h0:=h.2.2 a rfl (p+j) u hu;have e:(a.add (p*1)).add j=a.add (p+j):=by
    unfold Addr.add;by_cases h1:p=0
    ·subst h1;simp
    ·by_cases h2:j=0
     ·subst h2;simp[h1]
     ·simp[h1,h2,Nat.add_assoc]
   rw[e];exact h0
theorem Sl.to_ {w:World}{A:Option Addr}{n c:Nat}{vs:List Value}(h:Sl w 1 A n c vs){p:Nat}(hp:p<=n):Sl w 1 (if c=0 then A else A.map (·.add (0*1))) p c (vs.take p):=by
 have hl:vs.length=n:=by have:=h.1;omega
 refine⟨by rw[List.length_take];omega,fun e=>?_,fun ad ha j u hu=>?_⟩
 ·cases A with
  |none=>have:=h.2.1 rfl;omega
  |some a=>
   rw[Option.map_some]at e;split at e<;>cases e
 ·have hj:j<p:=by
   have:=(List.getElem?_eq_some_iff.1 hu).1;rw[List.length_take]at this;omega
  rw[List.getElem?_take_of_lt hj]at hu
  cases A with
  |none=>split at ha<;>cases ha
  |some a=>
   rw[Option.map_some]at ha;have e:(a.add (0*1))=a:=by unfold Addr.add;simp
   rw[e]at ha;have ha':ad=a:=by split at ha<;>(injection ha with ha;exact ha.symm)
   subst ha';exact h.2.2 ad rfl j u hu
theorem qgh {A:Option Addr}{c p:Nat}: ∀a',(if c=p then A else A.map (·.add (p*1)))=some a'-> ∃a,A=some a/\a'.block=a.block:=by
 intro a' h
 cases A with
 |none=>split at h<;>cases h
 |some a=>
  refine⟨a,rfl,?_⟩;rw[Option.map_some]at h;split at h<;>(injection h with h;rw[<-h])
  unfold Addr.add;split<;>rfl
end
section
open Go.RowKit
inductive Pt where
 |mk (v:Nat) (k:Nat) (body:List Pt)
def nats (l:List Nat):List Value:=l.map fun(n:Nat)=> .int .i64 (n:Int)
def qaN (k:Nat):List Nat:=if k=1 then[1]else if k=2 then[1,2]else[]
structure SlZ (lo hi:Nat) (w:World) (size:Nat) (A:Option Addr) (n c:Nat) (vs:List Value):Prop where
 sl:Sl w size A n c vs
 zone: ∀a,A=some a->lo<=a.block/\a.block<hi
mutual
def PtAt (lo hi:Nat)(w:World):Pt->List Value->Prop
 | .mk v k b,cs=> ∃Ao co Af nf cf fc,cs=[.int .i64 (v:Int),.bool (decide (k=0)),.slice Ao (qaN k).length co,.slice Af nf cf]/\SlZ lo hi w 1 Ao (qaN k).length co (nats (qaN k))/\b.length=nf/\nf<=cf/\SlZ lo hi w 4 Af nf cf fc/\PtsAt lo hi w b fc
def PtsAt (lo hi:Nat)(w:World):List Pt->List Value->Prop
 |[],cs=>cs=[]
 |x::l,cs=> ∃c1 c2,cs=c1++c2/\PtAt lo hi w x c1/\PtsAt lo hi w l c2
end
def Zone (lo hi:Nat)(w w':World):Prop:= ∀k,lo<=k->k<hi->w'.heap[k]?=w.heap[k]?
theorem add_blk (a:Addr)(j:Nat):(a.add j).block=a.block:=by unfold Addr.add;split<;>rfl
theorem SlZ.keep {lo hi lo' hi':Nat}{w w':World}{size:Nat}{A:Option Addr}{n c:Nat}{vs:List Value}(h:SlZ lo hi w size A n c vs)(hz:Zone lo hi w w')(h1:lo'<=lo)(h2:hi<=hi'):SlZ lo' hi' w' size A n c vs:=by
 refine⟨⟨h.sl.1,h.sl.2.1,fun ad ha j u hu=>?_⟩,fun a ha=>?_⟩
 ·have h0:=h.sl.2.2 ad ha j u hu
  obtain⟨z1,z2⟩:=h.zone ad ha;rw[World.cell?_of_block (w:=w) (by rw[add_blk];exact hz _ z1 z2)];exact h0
 ·obtain⟨z1,z2⟩:=h.zone a ha
  exact⟨Nat.le_trans h1 z1,Nat.lt_of_lt_of_le z2 h2⟩
mutual
theorem PtAt.keep {lo hi lo' hi':Nat}{w w':World}(hz:Zone lo hi w w')(h1:lo'<=lo)(h2:hi<=hi'): ∀(x:Pt) (cs:List Value),PtAt lo hi w x cs->PtAt lo' hi' w' x cs
 | .mk v k b,cs,h=>by
  rw[PtAt]at h⊢;obtain⟨Ao,co,Af,nf,cf,fc,e,a1,a2,a3,a4,a5⟩:=h;exact⟨Ao,co,Af,nf,cf,fc,e,a1.keep hz h1 h2,a2,a3,a4.keep hz h1 h2,PtsAt.keep hz h1 h2 b fc a5⟩
theorem PtsAt.keep {lo hi lo' hi':Nat}{w w':World}(hz:Zone lo hi w w')(h1:lo'<=lo)(h2:hi<=hi'): ∀(l:List Pt) (cs:List Value),PtsAt lo hi w l cs->PtsAt lo' hi' w' l cs
 |[],cs,h=>by rw[PtsAt]at h⊢;exact h
 |x::l,cs,h=>by
  rw[PtsAt]at h⊢;obtain⟨c1,c2,e,a1,a2⟩:=h;exact⟨c1,c2,e,PtAt.keep hz h1 h2 x c1 a1,PtsAt.keep hz h1 h2 l c2 a2⟩
end
theorem qeR {lo hi:Nat}{w:World}: ∀ {l1 l2:List Pt} {c1 c2:List Value},PtsAt lo hi w l1 c1->PtsAt lo hi w l2 c2->PtsAt lo hi w (l1++l2) (c1++c2)
 |[],l2,c1,c2,h1,h2=>by rw[PtsAt]at h1;subst h1;exact h2
 |x::l,l2,c1,c2,h1,h2=>by
  rw[PtsAt]at h1;obtain⟨d1,d2,e,a1,a2⟩:=h1;rw[List.cons_append,PtsAt];exact⟨d1,d2++c2,by rw[e,List.append_assoc],a1,qeR a2 h2⟩
theorem qgz {lo hi:Nat}{w:World}{x:Pt}{cs:List Value}(h:PtAt lo hi w x cs):cs.length=4/\ ∀u∈cs,u.oneCell'=true:=by
 cases x with
 |mk v k b=>
  rw[PtAt]at h;obtain⟨Ao,co,Af,nf,cf,fc,rfl,_⟩:=h;refine⟨rfl,fun u hu=>?_⟩;simp only[List.mem_cons,List.not_mem_nil,or_false]at hu
  rcases hu with rfl|rfl|rfl|rfl<;>rfl
theorem qfF {lo hi:Nat}{w:World}: ∀ {l:List Pt} {cs:List Value},PtsAt lo hi w l cs->cs.length=l.length*4/\ ∀u∈cs,u.oneCell'=true
 |[],cs,h=>by rw[PtsAt]at h;subst h;exact⟨rfl,fun u hu=>by cases hu⟩
 |x::l,cs,h=>by
  rw[PtsAt]at h;obtain⟨d1,d2,rfl,a1,a2⟩:=h;obtain⟨b1,b2⟩:=qgz a1;obtain⟨b3,b4⟩:=qfF a2;refine⟨by rw[List.length_append,b1,b3,List.length_cons];omega,fun u hu=>?_⟩
  rcases List.mem_append.1 hu with hu|hu
  ·exact b2 u hu
  ·exact b4 u hu
theorem ptsAt_at {lo hi:Nat}{w:World}: ∀ {l:List Pt} {cs:List Value} (pre:List Pt) (x:Pt) (post:List Pt),l=pre++x::post->PtsAt lo hi w l cs-> ∃c1 c2 c3,cs=c1++c2++c3/\c1.length=pre.length*4/\PtAt lo hi w x c2
 |l,cs,[],x,post,e,h=>by
  subst e;rw[List.nil_append,PtsAt]at h;obtain⟨d1,d2,rfl,a1,_⟩:=h;exact⟨[],d1,d2,rfl,rfl,a1⟩
 |l,cs,y::pre,x,post,e,h=>by
  subst e;rw[List.cons_append,PtsAt]at h;obtain⟨d1,d2,rfl,a1,a2⟩:=h;obtain⟨c1,c2,c3,rfl,h1,h2⟩:=ptsAt_at pre x post rfl a2;exact⟨d1++c1,c2,c3,by simp[List.append_assoc],by rw[List.length_append,(qgz a1).1,h1,List.length_cons];omega,h2⟩
structure Parts (lo hi:Nat) (w:World) (A:Option Addr) (n c:Nat) (l:List Pt):Prop where
 len:l.length=n
 cap:n<=c
 mem: ∃cs,SlZ lo hi w 4 A n c cs/\PtsAt lo hi w l cs
theorem qcO {lo:Nat}{w w':World}(hb:Below w.heap.size w w'):Zone lo w.heap.size w w':=fun k _ hk=>hb.block k hk
theorem Parts.keep {lo hi lo' hi':Nat}{w w':World}{A:Option Addr}{n c:Nat}{l:List Pt}(h:Parts lo hi w A n c l)(hz:Zone lo hi w w')(h1:lo'<=lo)(h2:hi<=hi'):Parts lo' hi' w' A n c l:=by
 obtain⟨cs,a,b⟩:=h.mem;exact⟨h.len,h.cap,cs,a.keep hz h1 h2,PtsAt.keep hz h1 h2 l cs b⟩
theorem Parts.under {lo:Nat}{w w':World}{A:Option Addr}{n c:Nat}{l:List Pt}(h:Parts lo w.heap.size w A n c l)(hb:Below w.heap.size w w'):Parts lo w'.heap.size w' A n c l:=
 h.keep (qcO hb) (Nat.le_refl _) hb.size
theorem Parts.beside {lo:Nat}{w:World}{A:Option Addr}{n c:Nat}{l:List Pt}(h:Parts lo w.heap.size w A n c l)(o:Obj):Parts lo (w.alloc o).heap.size (w.alloc o) A n c l:=
 h.under ((Below.refl _ _).alloc (Nat.le_refl _) o)
theorem Parts.lower {lo lo' hi:Nat}{w:World}{A:Option Addr}{n c:Nat}{l:List Pt}(h:Parts lo hi w A n c l)(h1:lo'<=lo):Parts lo' hi w A n c l:=
 h.keep (fun _ _ _=>rfl) h1 (Nat.le_refl _)
theorem Parts.addr {lo hi:Nat}{w:World}{A:Option Addr}{n c:Nat}{l:List Pt}(h:Parts lo hi w A n c l)(hn:0<n): ∃a,A=some a:=by
 obtain⟨cs,hz,_⟩:=h.mem
 cases A with
 |none=>have:=(hz.sl.2.1 rfl).1;omega
 |some a0=>exact⟨a0,rfl⟩
theorem own_cap {w:World}{base:Nat}{e:TypeId}{size n c:Nat}{A:Option Addr}{xs:List Value}(h:w.ownsRow base e size (.slice A n c) n xs):n<=c:=by
 rcases h.2 with⟨e1,e2⟩|⟨g,cap,cur,e1,_,_,e2,_⟩
 ·omega
 ·injection e1 with _ _ e3;omega
theorem slz_own {w:World}{base:Nat}{e:TypeId}{size n c:Nat}{A:Option Addr}{xs:List Value}(h:w.ownsRow base e size (.slice A n c) n xs):SlZ base w.heap.size w size A n c xs:=by
 refine⟨Sl.of_own h,fun a ha=>?_⟩;subst ha;exact h.lt a.block rfl
def qae (vs:List Nat):List Pt:=vs.map fun v=> .mk v 3 []
def qbC (vs:List Nat):List Value:=vs.flatMap fun(v:Nat)=>[.int .i64 (v:Int),.bool false,.slice none 0 0,.slice none 0 0]
theorem slz_nil (lo hi:Nat)(w:World)(size:Nat):SlZ lo hi w size none 0 0 []:=⟨qfO _ _,fun _ h=>by cases h⟩
theorem plain_at (lo hi:Nat)(w:World): ∀vs:List Nat,PtsAt lo hi w (qae vs) (qbC vs)
 |[]=>by show PtsAt lo hi w [] [];rw[PtsAt]
 |v::vs=>by
  show PtsAt lo hi w (.mk v 3 []::qae vs) ([.int .i64 (v:Int),.bool false,.slice none 0 0,.slice none 0 0]++qbC vs)
  rw[PtsAt];refine⟨_,_,rfl,?_,plain_at lo hi w vs⟩;rw[PtAt];exact⟨none,0,none,0,0,[],rfl,slz_nil _ _ _ _,rfl,Nat.le_refl _,slz_nil _ _ _ _,by rw[PtsAt]⟩
theorem qdR:(Tryz.prog.info? 284).map (fun i=>(i.zero,i.size,i.bytes))=some (some (.agg #[.int .i64 0,.bool false,.slice none 0 0,.slice none 0 0]),4,64):=by kernel_rfl
theorem plain_snoc (vs:List Nat)(j:Nat)(h:j<vs.length):qbC (vs.take (j+1))=qbC (vs.take j)++[.int .i64 (vs.getD j 0:Int),.bool false,.slice none 0 0,.slice none 0 0]:=by
 rw[List.take_succ_eq_append_getElem h,qbC,List.flatMap_append,<-qbC];simp[List.getD_eq_getElem?_getD,List.getElem?_eq_getElem h]
theorem plain_any (A:Option Addr)(n c:Nat)(vs:List Nat)(w:World)(hs:Sl w 1 A n c (nats vs))(hn:n<=1000):
  Calls Tryz.prog 245 #[.slice A n c] w fun e w'=> ∃A' c',e= .returned (.slice A' n c')/\w'.ownsRow w.heap.size 284 4 (.slice A' n c') n (qbC vs)/\Below w.heap.size w w':=by
 have hl:vs.length=n:=by have:=hs.1;simpa[nats]using this
 have HS:=zq hs;have HL:=zq hl;clear hs hl;go_enter Tryz.func245,Tryz.ntmps245;go_wp2;go_loopg [3,8] n (fun kk v i wl=> ∃(j:Nat) (A2:Option Addr) (c2:Nat),j<=n/\n-j<=kk/\i= .int .i64 j/\v= .slice A2 j c2/\wl.ownsRow w.heap.size 284 4 (.slice A2 j c2) j (qbC (vs.take j))/\Below w.heap.size w wl)
 case atStart=>exact⟨0,none,0,by omega,by omega,rfl,rfl,World.ownsRow_nil _ _ _ _,Below.refl _ _⟩
 obtain⟨j,A2,c2,hj,hjk,rfl,rfl,ho,hb⟩:=hrel;have HO:=zq ho;have HB:=zq hb;clear ho hb;by_cases hlt:j<n
 ·have hjl:j<vs.length:=by have:=HL.out;omega
  have hsn:=plain_snoc vs j hjl;have hv:(nats vs)[j]?=some (.int .i64 (vs.getD j 0:Int)):=by simp[nats,List.getD_eq_getElem?_getD,List.getElem?_eq_getElem hjl]
  obtain⟨b0,o0,rfl,hc0⟩:=(HS.out.under HB.out).at_ hv;generalize vs.getD j 0=v at*;have HSN:=zq hsn;clear hsn hv hjl;have x0:(0:Int)<=j:=by omega
  have x1:(j:Int)<n:=by omega
  have hN:=zq (show([.int .i64 (v:Int),.bool false,.slice none 0 0,.slice none 0 0]:List Value).length=1*4 from rfl);have hO3:=zq (HO.out.alloc (.cells #[.int .i64 (v:Int),.bool false,.slice none 0 0,.slice none 0 0] 284));have hC:Hid (∀i u,([.int .i64 (v:Int),.bool false,.slice none 0 0,.slice none 0 0]:List Value)[i]?=some u->(wr.alloc (.cells #[.int .i64 (v:Int),.bool false,.slice none 0 0,.slice none 0 0] 284)).cell? ((⟨wr.heap.size,0,none⟩:Addr).add i)=some u):=by
   intro i u hu;rw[WideShapes.add_plain,(Has.made wr 284 _).cell,Nat.zero_add]
   simpa using hu
  have h1c:Hid (∀u∈([.int .i64 (v:Int),.bool false,.slice none 0 0,.slice none 0 0]:List Value),u.oneCell'=true):=by
   intro u hu;simp only[List.mem_cons,List.not_mem_nil,or_false]at hu
   rcases hu with rfl|rfl|rfl|rfl<;>rfl
  have hBD:Hid (j+1<=maxLen/\(j+1)*64<=140737488355328/\w.heap.size<=(wr.alloc (.cells #[.int .i64 (v:Int),.bool false,.slice none 0 0,.slice none 0 0] 284)).heap.size):=zq ⟨by unfold maxLen;omega,by omega,by have:=HB.out.size;simp;omega⟩;have hB3:=zq (HB.out.alloc HB.out.size (.cells #[.int .i64 (v:Int),.bool false,.slice none 0 0,.slice none 0 0] 284));go_wp2_with (with_reducible refine qao (o:=⟨some 16,_,_,_,_,_⟩) rfl (.tmp 12) (.tmp 15) 252 rfl w.heap.size 284 (.agg #[.int .i64 0,.bool false,.slice none 0 0,.slice none 0 0]) 4 64 Tryz.underlying252 qdR ?hz (by decide) A2 j c2 (qbC (vs.take j)) ?hs hO3 ⟨wr.heap.size,0,none⟩ 1 1 [.int .i64 (v:Int),.bool false,.slice none 0 0,.slice none 0 0] ?hx hN hC h1c hBD ?next)
  all_goals try rfl
  intro A4 c4 w4 ho4 hg4;go_wp2;go_roundg (gk-1)
  case measure=>omega
  case rel=>exact⟨j+1,A4,c4,by omega,by omega,by go_num,rfl,by rw[HSN.out];exact ho4.out,qai hB3.out hBD.out.2.2 hO3.out (Nat.le_refl _) rfl hg4.out⟩
 ·obtain rfl:j=n:=by omega
  have e:vs.take j=vs:=by rw[<-HL.out,List.take_length]
  rw[e]at HO;go_wp2;go_ret
  exact⟨A2,c2,rfl,HO.out,HB.out⟩
end
section
open Go.RowKit
theorem grow_room (w:World)(n:Nat)(h0:0<n)(hn:n<=10000):
  ∃G cs,(∀ty,(Builtin.append_ #[252,3] ty #[.slice none 0 0,.int .i64 (n:Nat)]).run Tryz.prog w= .ok (.slice (some ⟨w.heap.size,0,none⟩) n G) (w.drew.alloc (.cells cs 284)))/\n<=G/\G<=maxLen/\cs.size=G*4:=by
 obtain⟨i,hi,hz,hsize,hby⟩:=info_parts qdR;have hold:(Builtin.firstCells i.size 0 (.slice none 0 0)).run Tryz.prog w.drew= .ok ([]:List Value).toArray w.drew:=run_firstCells_none w.drew i.size 0 0 0;have hb:(0+n)*i.bytes<=140737488355328:=by rw[hby];omega
 have h:=fun ty=>Lib.run_append_grow_zeros (P:=Tryz.prog) w 252 3 ty 284 i _ .i64 .i64 Tryz.underlying252 Tryz.underlying3 hi hz none 0 0 [] hold n h0 (by omega) (by omega) (by omega) (by rw[hby];omega) (growslice_fits (by omega) hb);rw[Nat.zero_add]at h;have hge:=grownCap_ge w n 0 284;refine⟨_,_,h,hge,grownCap_le_maxLen w n 0 _ (by unfold maxLen;omega),?_⟩;simp only[Array.size_append,size_zeroCells];show 0+n*4+_*4=_
 omega
theorem qeS (w:World)(a:Option Addr)(n c k:Nat)(hk:k<=c)(ha:a=none\/ ∃g,a=some ⟨g,0,none⟩):(Instr.sliceAt 252 (.slice a n c) none (some (.int .i64 (k:Nat))) none).run Tryz.prog w= .ok (.slice a k c) w:=by
 obtain⟨i,hi,hz,hsize,hby⟩:=info_parts qdR;have e1:(sizeOf 284).run Tryz.prog w= .ok 4 w:=by simp[sizeOf,run_typeInfo _ hi,hsize]
 have h0:(0:Int)<=(k:Nat):=by omega
 have h1:((k:Nat):Int)<=(c:Nat):=by omega
 have he:Tryz.prog.elem 252=284:=by kernel_rfl
 rcases ha with rfl|⟨g,rfl⟩
 ·simp[Instr.sliceAt,Instr.slice,run_underlying Tryz.underlying252,Instr.sliceBounds,run_sliceBound,h0,h1]
 ·simp[Instr.sliceAt,Instr.slice,run_underlying Tryz.underlying252,Instr.sliceBounds,run_sliceBound,h0,h1,Addr.add]
theorem grow_any (n:Nat)(hn:n<=10000)(w:World):
  Calls Tryz.prog 262 #[.slice none 0 0,.int .i64 (n:Nat)] w fun e w'=> ∃A' c',e= .returned (.slice A' 0 c')/\w'.ownsRow w.heap.size 284 4 (.slice A' 0 c') 0 []/\Below w.heap.size w w':=by
 have h1: ¬((n:Int)<0):=by omega
 by_cases h0:0<n
 ·obtain⟨G,cs,hr,hG,hG2,hsz⟩:=grow_room w n h0 hn
  have hx:(0:Int)<n:=by omega
  have hc1: ∀w,(Instr.sliceAt 252 (.slice none 0 0) none (some (.int .i64 0)) none).run Tryz.prog w= .ok (.slice none 0 0) w:=fun w=>qeS w none 0 0 0 (by omega) (.inl rfl);have hc2: ∀W:World,(Instr.sliceAt 252 (.slice (some ⟨w.heap.size,0,none⟩) n G) none (some (.int .i64 0)) none).run Tryz.prog W= .ok (.slice (some ⟨w.heap.size,0,none⟩) 0 G) W:=fun W=>qeS W _ n G 0 (by omega) (.inr ⟨_,rfl⟩);have HR:=zq hr;have HS:=zq hsz;clear hr hsz;go_enter Tryz.func262,Tryz.ntmps262;go_wp2_with (at_builtin;refine Lib.wpList_append_run _ rfl _ _ _ _ rfl _ _ rfl rfl _ _ (HR.out _) ?_);go_wp2;go_ret
  refine⟨_,G,rfl,⟨rfl,.inr ⟨w.heap.size,G,cs,rfl,Nat.le_refl _,?_,by omega,hG2,HS.out,by simp⟩⟩,(qac (Below.refl _ _) 1).alloc (Nat.le_refl _) _⟩;exact heap_alloc_new w.drew _
 ·obtain rfl:n=0:=by omega
  go_enter Tryz.func262,Tryz.ntmps262;go_wp2;go_ret
  exact⟨none,0,rfl,World.ownsRow_nil _ _ _ _,Below.refl _ _⟩
abbrev SlT:=Option Addr×Nat×Nat×List Value
def sls (L:List SlT):List Value:=L.map fun x=> .slice x.1 x.2.1 x.2.2.1
def cntOf (L:List SlT):Nat:=(L.map fun x=>x.2.1).sum
def qc6 (L:List SlT):List Value:=L.flatMap fun x=>x.2.2.2
theorem cnt_step (L:List SlT)(j:Nat)(h:j<L.length):cntOf (L.take (j+1))=cntOf (L.take j)+L[j].2.1:=by
 rw[List.take_succ_eq_append_getElem h,cntOf,List.map_append,List.sum_append];simp[cntOf,-List.map_take]
theorem cells_step (L:List SlT)(j:Nat)(h:j<L.length):qc6 (L.take (j+1))=qc6 (L.take j)++L[j].2.2.2:=by
 rw[List.take_succ_eq_append_getElem h,qc6,List.flatMap_append];simp[qc6]
theorem cnt_le (L:List SlT)(h: ∀x∈L,x.2.1<=100):cntOf L<=100*L.length:=by
 induction L with
 |nil=>simp[cntOf]
 |cons x l ih=>
  have h1:=h x (by simp);have h2:=ih (fun y hy=>h y (by simp[hy]));have e:cntOf (x::l)=x.2.1+cntOf l:=by simp[cntOf]
  rw[e,List.length_cons];omega
theorem concat_any (A:Option Addr)(n c:Nat)(L:List SlT)(w:World)(hs:Sl w 1 A n c (sls L))(hn:n<=100)(hx: ∀x∈L,Sl w 4 x.1 x.2.1 x.2.2.1 x.2.2.2/\(∀u∈x.2.2.2,u.oneCell'=true)/\x.2.1<=100):
  Calls Tryz.prog 244 #[.slice A n c] w fun e w'=> ∃A' c',e= .returned (.slice A' (cntOf L) c')/\w'.ownsRow w.heap.size 284 4 (.slice A' (cntOf L) c') (cntOf L) (qc6 L)/\Below w.heap.size w w':=by
 have hl:L.length=n:=by have:=hs.1;simpa[sls]using this
 have hat: ∀j,j<n-> ∀W,Below w.heap.size w W-> ∃x,∃hj:j<L.length,x=L[j]/\ ∃b o,A=some ⟨b,o,none⟩/\W.cell? ⟨b,o+j,none⟩=some (.slice x.1 x.2.1 x.2.2.1)/\Sl W 4 x.1 x.2.1 x.2.2.1 x.2.2.2/\(∀u∈x.2.2.2,u.oneCell'=true)/\x.2.1<=100:=by
  intro j hj W hW;have hjl:j<L.length:=by omega
  obtain⟨b,o,e1,e2⟩:=(hs.under hW).at_ (j:=j) (u:= .slice L[j].1 L[j].2.1 L[j].2.2.1) (by simp[sls,List.getElem?_eq_getElem hjl]);obtain⟨h1,h2,h3⟩:=hx L[j] (List.getElem_mem hjl);exact⟨L[j],hjl,rfl,b,o,e1,e2,h1.under hW,h2,h3⟩
 have hcl:=cnt_le L (fun x h=>(hx x h).2.2);have hct: ∀j,j<=n->cntOf (L.take j)<=10000:=fun j hj=>by
  have:=cnt_le (L.take j) (fun x h=>(hx x (List.mem_of_mem_take h)).2.2);rw[List.length_take]at this;omega
 have HAT:=zq hat;have HL:=zq hl;have HCT:=zq hct;have HCL:Hid (cntOf L<=10000):=zq (by omega);clear hs hx hat hl hct hcl;go_enter Tryz.func244,Tryz.ntmps244;go_wp2;go_loop [3,11] (fun v i=> ∃(j t:Nat),j<=n/\i= .int .i64 j/\v= .int .i64 t/\cntOf (L.take j)=t) (fun _ i=>n-(intOf i).toNat)
 case atStart=>exact⟨0,0,by omega,rfl,rfl,rfl⟩
 obtain⟨j,t,hj,rfl,rfl,ht⟩:=hrel;by_cases hlt:j<n
 ·obtain⟨x,hjl,hxe,b,o,rfl,hc,_,_,hx3⟩:=HAT.out j hlt w (Below.refl _ _)
  have hst:=cnt_step L j hjl;have hcb:=HCT.out (j+1) (by omega);rw[ht,<-hxe]at hst;rw[hst]at hcb;obtain⟨xa,xm,xc,xs⟩:=x;simp only at hc hx3 hst hcb;have HST:=zq hst;clear hst ht hxe;have x0:(0:Int)<=j:=by omega
  have x1:(j:Int)<n:=by omega
  have x2: ¬((t:Int)+(xm:Int)<0):=by omega
  go_wp2;go_round
  case rel=>exact⟨j+1,t+xm,by omega,by go_num,by go_num,HST.out⟩
  case measure=>simp[intOf];omega
 ·obtain rfl:j=n:=by omega
  have e:L.take j=L:=by rw[<-HL.out,List.take_length]
  rw[e]at ht;have HTT:=zq ht;have HG:=zq (grow_any t (by rw[<-ht];exact HCL.out) w);clear ht e;go_wp2_with fail;refine HG.out.mono ?_;rintro e w1 ⟨A1,c1,rfl,ho1,hb1⟩;have HO1:=zq ho1;have HB1:=zq hb1;clear ho1 hb1 HG;go_wp2;go_loopg [6,27] j (fun kk v i wl=> ∃(q t2:Nat) (A2:Option Addr) (c2:Nat),q<=j/\j-q<=kk/\i= .int .i64 q/\v= .slice A2 t2 c2/\cntOf (L.take q)=t2/\wl.ownsRow w.heap.size 284 4 (.slice A2 t2 c2) t2 (qc6 (L.take q))/\Below w.heap.size w wl)
  case atStart=>exact⟨0,0,A1,c1,by omega,by omega,rfl,rfl,rfl,HO1.out,HB1.out⟩
  obtain⟨q,t2,A2,c2,hq,hqk,rfl,rfl,ht2,ho,hb⟩:=hrel;have HO:=zq ho;have HB:=zq hb;clear ho hb;by_cases hlt2:q<j
  ·obtain⟨x,hjl,hxe,b,o,rfl,hc,hx1,hx2,hx3⟩:=HAT.out q hlt2 wr HB.out
   have hst:=cnt_step L q hjl;have hse:=cells_step L q hjl;have hcb:=HCT.out (q+1) (by omega);rw[ht2,<-hxe]at hst;rw[<-hxe]at hse;rw[hst]at hcb;obtain⟨xa,xm,xc,xs⟩:=x;simp only at hc hx1 hx2 hx3 hst hse hcb;have HST:=zq hst;have HSE:=zq hse;have HX1:=zq hx1;have HX2:=zq hx2;have hBD:Hid (t2+xm<=maxLen/\(t2+xm)*64<=140737488355328/\w.heap.size<=wr.heap.size):=zq ⟨by unfold maxLen;omega,by omega,HB.out.size⟩;clear hst hse ht2 hxe hx1 hx2;have x0:(0:Int)<=q:=by omega
   have x1:(q:Int)<j:=by omega
   go_wp2_with (with_reducible refine qaG (o:=⟨some 33,_,_,_,_,_⟩) rfl (.tmp 31) (.tmp 32) 252 rfl w.heap.size 284 (.agg #[.int .i64 0,.bool false,.slice none 0 0,.slice none 0 0]) 4 64 Tryz.underlying252 qdR ?hz (by decide) A2 t2 c2 (qc6 (L.take q)) ?hs HO xa xm xc xs ?hx HX1 HX2 hBD ?next)
   all_goals try rfl
   intro A4 c4 w4 ho4 hg4;go_wp2;go_roundg (gk-1)
   case measure=>omega
   case rel=>exact⟨q+1,t2+xm,A4,c4,by omega,by omega,by go_num,rfl,HST.out,by rw[HSE.out];exact ho4.out,qai HB.out hBD.out.2.2 HO.out (Nat.le_refl _) rfl hg4.out⟩
  ·obtain rfl:q=j:=by omega
   have e:L.take q=L:=by rw[<-HL.out,List.take_length]
   rw[e]at HO ht2;subst ht2;go_wp2;go_ret
   exact⟨A2,c2,rfl,HO.out,HB.out⟩
end
end Go.Proofs.YtahadmeilajdgaaGreatDoor
