/-
  Our own text, joined.
-/
import Derived.Test.YtahadmeilajdgaaGreatDoorMrab
import Derived.Test.YtahadmeilajdgaaGreatDoorMraa
import Derived.Test.YtahadmeilajdgaaGreatDoorMrae
import Derived.BigQuiet
import Derived.IntWalk
import Derived.Deep.RegionWith
import Derived.Sort.Grow
import Derived.Test.YtahadmeilajdgaaGreatDoorMraf
import Derived.Test.YtahadmeilajdgaaGreatDoorMrah
import Derived.Test.YtahadmeilajdgaaGreatDoorMrad
import Derived.Test.YtahadmeilajdgaaGreatDoorRows
import Derived.KernelRfl
import Derived.Deep.DeepCutAuto
import Derived.StillTailTactics
import Derived.Below
import Derived.WalkKit
import Derived.ProofKit
import Derived.OpenShut
import Derived.Deep.Slices
import Derived.Lib.SmallJoins
import Derived.Laws.CopyOwn
import Derived.Deep.OwnRows
import Derived.Laws.BytesArg
import Derived.Lib.ConvBytes
import Derived.WalkSpells
import Derived.WalkLawsBesides
import Derived.Laws.BitsAllLaws
import Derived.Lib.Hide
import Derived.Deep.QuietTactic
import Derived.Deep.RegionLaw
import Derived.ChangeKeysEq
namespace Go.Proofs.YtahadmeilajdgaaGreatDoor
set_option maxRecDepth 100000
set_option maxHeartbeats 20000000
section
structure Bd4 where
 edge:Int
 at_:Int
 a:Int
 b:Int
structure Pc5 where
 s:Sn3
 inA:Bool
 inB:Bool
def befB (x y:Bd4):Bool:=decide (x.edge<y.edge)||(decide (x.edge=y.edge) &&decide (x.at_<y.at_))
theorem befB_iff {x y:Bd4}:befB x y=true↔x.edge<y.edge\/(x.edge=y.edge/\x.at_<y.at_):=by
 unfold befB;simp
def sumK (f:Bd4->Int):List Bd4->Int
 |[]=>0
 |d::r=>f d+sumK f r
theorem sumK_zero {f:Bd4->Int}{l:List Bd4}(h: ∀d∈l,f d=0):sumK f l=0:=by
 induction l with
 |nil=>rfl
 |cons d r ih=>rw[sumK,h d (List.mem_cons_self ..),ih fun e he=>h e (List.mem_cons_of_mem _ he)];rfl
def upK (e x:Int)(d:Bd4):Prop:=d.edge<e\/(d.edge=e/\d.at_<=x)
instance (e x : Int) (d : Bd4) : Decidable (upK e x d) := by unfold upK; infer_instance
def upA (e x:Int)(d:Bd4):Int:=if upK e x d then d.a else 0
def upB15 (e x:Int)(d:Bd4):Int:=if upK e x d then d.b else 0
instance (s : Sn3) : Decidable (okN s) := by unfold okN; infer_instance
structure Swp (cA cB:Int->Int->Int) (pe pa oa ob:Int) (Q:List Bd4):Prop where
 sorted:Q.Pairwise fun x y=>befB y x=false
 ge: ∀d∈Q,pe<d.edge\/(pe=d.edge/\pa<=d.at_)
 num: ∀d∈Q,0<=d.edge/\0<=d.at_/\d.at_<=1000000
 sA: ∀e x,pe<e\/(pe=e/\pa<=x)->oa+sumK (upA e x) Q=cA e x
 sB: ∀e x,pe<e\/(pe=e/\pa<=x)->ob+sumK (upB15 e x) Q=cB e x
 fin: ∀e x,pe<e\/(pe=e/\pa<=x)->0<cA e x+cB e x-> ∃d∈Q,d.edge=e/\x<d.at_
theorem Swp.tail {cA cB:Int->Int->Int}{pe pa oa ob:Int}{d:Bd4}{r:List Bd4}(h:Swp cA cB pe pa oa ob (d::r)):Swp cA cB d.edge d.at_ (oa+d.a) (ob+d.b) r where
 sorted:=(List.pairwise_cons.1 h.sorted).2
 ge:=fun y hy=>by
  have h1:=(List.pairwise_cons.1 h.sorted).1 y hy;have h2: ¬(y.edge<d.edge\/(y.edge=d.edge/\y.at_<d.at_)):=fun h2=>by rw[befB_iff.2 h2]at h1;cases h1
  omega
 num:=fun y hy=>h.num y (List.mem_cons_of_mem _ hy)
 sA:=fun e x hx=>by
  have h1:=h.ge d (List.mem_cons_self ..);have h2:=h.sA e x (by omega);rw[sumK]at h2;have h3:upA e x d=d.a:=if_pos (by unfold upK;omega);rw[h3]at h2;omega
 sB:=fun e x hx=>by
  have h1:=h.ge d (List.mem_cons_self ..);have h2:=h.sB e x (by omega);rw[sumK]at h2;have h3:upB15 e x d=d.b:=if_pos (by unfold upK;omega);rw[h3]at h2;omega
 fin:=fun e x hx hc=>by
  have h1:=h.ge d (List.mem_cons_self ..);obtain⟨y,hy,h2,h3⟩:=h.fin e x (by omega) hc
  rcases List.mem_cons.1 hy with rfl|hy
  ·omega
  ·exact⟨y,hy,h2,h3⟩
theorem Swp.still {cA cB:Int->Int->Int}{pe pa oa ob:Int}{d:Bd4}{r:List Bd4}(h:Swp cA cB pe pa oa ob (d::r)){e x:Int}(h1:pe<e\/(pe=e/\pa<=x))(h2:e<d.edge\/(e=d.edge/\x<d.at_)):oa=cA e x/\ob=cB e x:=by
 have hz: ∀y∈d::r,¬upK e x y:=fun y hy=>by
  unfold upK
  rcases List.mem_cons.1 hy with rfl|hy
  ·omega
  ·have:=h.tail.ge y hy
   omega
 have hA:=h.sA e x h1;have hB:=h.sB e x h1;rw[sumK_zero (f:=upA e x) fun y hy=>if_neg (hz y hy)]at hA;rw[sumK_zero (f:=upB15 e x) fun y hy=>if_neg (hz y hy)]at hB;omega
theorem Swp.edge {cA cB:Int->Int->Int}{pe pa oa ob:Int}{d:Bd4}{r:List Bd4}(h:Swp cA cB pe pa oa ob (d::r))(ho:0<oa+ob):pe=d.edge:=by
 have h1:=h.ge d (List.mem_cons_self ..);refine Classical.byContradiction fun hne=>?_;obtain⟨h2,h3⟩:=h.still (e:=pe) (x:=pa) (.inr ⟨rfl,Int.le_refl _⟩) (.inl (by omega));obtain⟨y,hy,h4,h5⟩:=h.fin pe pa (.inr ⟨rfl,Int.le_refl _⟩) (by omega)
 rcases List.mem_cons.1 hy with rfl|hy
 ·omega
 ·have:=h.tail.ge y hy
  omega
structure Pcs (cA cB:Int->Int->Int) (out:List Pc5):Prop where
 ok: ∀p∈out,okN p.s/\(p.inA||p.inB)=true/\ ∀x,p.s.lo<=x->x<p.s.hi->p.inA=decide (0<cA p.s.edge x)/\p.inB=decide (0<cB p.s.edge x)
 pair:out.Pairwise fun p q=>p.s.edge<q.s.edge\/(p.s.edge=q.s.edge/\p.s.hi<=q.s.lo)
end
section
open Go.RowKit
open Go.Great
def GrW (w w':World):Prop:= ∃q os,w'=Go.Sort.grow (w.drewN q) os
theorem GrW.refl (w:World):GrW w w:=⟨0,#[],by simp[Go.Sort.grow,World.drewN]⟩
theorem GrW.alloc {w w':World}(h:GrW w w')(o:Obj):GrW w (w'.alloc o):=by
 obtain⟨q,os,rfl⟩:=h;exact⟨q,os++ #[o],by rw[Go.Sort.alloc_eq_grow,Go.Sort.grow_grow]⟩
theorem GrW.drew {w w':World}(h:GrW w w'):GrW w w'.drew:=by
 obtain⟨q,os,rfl⟩:=h;exact⟨q+1,os,by rw[Go.Sort.drew_grow];rfl⟩
end
section
open Go.RowKit
open Go.Great
def splL (X:List Value)(o:Nat)(cs:List Value):List Value:=X.take o++cs++X.drop (o+cs.length)
theorem splL_len (X:List Value)(o:Nat)(cs:List Value)(h:o+cs.length<=X.length):(splL X o cs).length=X.length:=by
 unfold splL;simp;omega
theorem splL_take (X:List Value)(o:Nat)(cs:List Value)(h:o<=X.length):(splL X o cs).take o=X.take o:=by
 unfold splL;rw[List.append_assoc,List.take_append_of_le_length (by simp;omega),List.take_take,Nat.min_self]
theorem qfR {P:Program}(w:World)(t e ty:TypeId)(z:Value)(ht:P.underlying t=some (.slice e))(hv: ∀w,(zeroValue e).run P w= .ok z w)(h1: ∀v∈z.cells.toList,v.oneCell'=true)(g o n c:Nat)(cur:Array Value)
  (hg:Has w g e cur) (hfit:o+n*z.cells.size<=cur.size) (h0:0<n):
  (Builtin.clear_ #[t] ty #[.slice (some ⟨g,o,none⟩) n c]).run P w= .ok (.tuple #[]) (w.setRow g (splL cur.toList o (Builtin.zeroCells z.cells n).toList).toArray):=by
 have hst:=run_storeCells_at P g o e (Builtin.zeroCells z.cells n).toList 0 cur w hg (by simpa[Builtin.zeroCells]using hfit) (fun v hv'=>by
  obtain⟨i,hi,rfl⟩:=List.getElem_of_mem hv';simp[Builtin.zeroCells]at hi⊢;exact h1 _ (by
   have hp:0<z.cells.size:=by
    rcases Nat.eq_zero_or_pos z.cells.size with h|h
    ·rw[h]at hi;simp at hi
    ·exact h
   rw[getElem!_pos z.cells _ (Nat.mod_lt _ hp)];simp))
 obtain⟨m,rfl⟩: ∃m,n=m+1:=⟨n-1,by omega⟩
 simp only[Nat.add_zero]at hst;simp[Builtin.clear_,run_underlying ht,hv,hst,splL]
theorem qcm {l:List Lc3}{i:Nat}(h:i<=l.length):(l.take i).flatMap lcC=(l.flatMap lcC).take (i*3)/\(l.drop i).flatMap lcC=(l.flatMap lcC).drop (i*3):=by
 have h1:l.flatMap lcC=(l.take i).flatMap lcC++(l.drop i).flatMap lcC:=by rw[<-List.flatMap_append,List.take_append_drop]
 have h2:((l.take i).flatMap lcC).length=i*3:=by rw[qbJ (f:=lcC) (k:=3) (fun _=>rfl),List.length_take,Nat.min_eq_left h]
 rw[h1];exact⟨(List.take_left' h2).symm,(List.drop_left' h2).symm⟩
theorem qfx {base g n c:Nat}{w:World}{cur:Array Value}{l:List Lc3}(hb:base<=g)(hg:Has w g 73 cur)(hnc:n<=c)(hcm:c<=maxLen)(hcs:cur.size=c*3)(hl:l.length=n)(ht:cur.toList.take (n*3)=l.flatMap lcC):OwR lcC 3 73 base w (some ⟨g,0,none⟩) n c l:=by
 refine⟨⟨?_,.inr ⟨g,c,cur,rfl,hb,hg,hnc,hcm,hcs,ht⟩⟩,hl⟩;rw[qbJ (f:=lcC) (k:=3) (fun _=>rfl),hl]
theorem owl_take16 {base n c i:Nat}{w:World}{A:Option Addr}{l:List Lc3}(h:OwR lcC 3 73 base w A n c l)(hi:i<=n):OwR lcC 3 73 base w A i c (l.take i):=by
 cases A with
 |none=>
  obtain⟨e,_⟩:=h.sl.2.2.1 rfl;subst e;obtain rfl:i=0:=by omega
  rcases h.1.2 with⟨h1,_⟩|⟨g,cap,cur,h1,_⟩
  ·injection h1 with _ _ h1
   subst h1;exact OwR.nil _ _ _ _ _
  ·cases h1
 |some ad=>
  obtain⟨g,cur,rfl,hb,hg,hnc,hcm,hcs,ht⟩:=h.has;refine qfx hb hg (by omega) hcm hcs (by rw[List.length_take,h.2];omega) ?_;rw[(qcm (by rw[h.2];exact hi)).1,<-ht,List.take_take,Nat.min_eq_left (by omega)]
/-! What DeleteFunc has made of a list when it has come to j and kept i. -/
structure DelP16 (p:Lc3->Bool) (l L:List Lc3) (i j:Nat):Prop where
 len:L.length=l.length
 le:i<j
 head:L.take i=(l.take j).filter fun k=>!p k
 rest:L.drop j=l.drop j
theorem del_start16 {p:Lc3->Bool}{l:List Lc3}{i:Nat}{x:Lc3}(hx:l[i]?=some x)(hp:p x=true)(hno: ∀(k:Nat) (y:Lc3),k<i->l[k]?=some y->p y=false):DelP16 p l l i (i+1):=by
 refine⟨rfl,Nat.lt_succ_self _,?_,rfl⟩;rw[List.take_add_one,hx,List.filter_append];have h1:(l.take i).filter (fun k=>!p k)=l.take i:=by
  rw[List.filter_eq_self];intro y hy;obtain⟨k,hk,rfl⟩:=List.getElem_of_mem hy;rw[List.length_take]at hk;rw[List.getElem_take,hno k _ (by omega) (List.getElem?_eq_getElem (by omega))]
  rfl
 rw[h1];show _=_++List.filter _ [x]
 rw[List.filter_cons,hp];simp
theorem del_at16 {p:Lc3->Bool}{l L:List Lc3}{i j:Nat}(h:DelP16 p l L i j){x:Lc3}(hx:l[j]?=some x):L[j]?=some x:=by
 have h1:(L.drop j)[0]?=(l.drop j)[0]?:=by rw[h.rest]
 rw[List.getElem?_drop,List.getElem?_drop]at h1;rw[<-hx]
 simpa using h1
theorem del_drop16 {p:Lc3->Bool}{l L:List Lc3}{i j:Nat}(h:DelP16 p l L i j){x:Lc3}(hx:l[j]?=some x)(hp:p x=true):DelP16 p l L i (j+1):=by
 refine⟨h.len,by have:=h.le;omega,?_,?_⟩
 ·rw[h.head,List.take_add_one,hx,List.filter_append]
  show _=_++List.filter _ [x]
  rw[List.filter_cons,hp];simp
 ·have h1:=congrArg (List.drop 1) h.rest
  rw[List.drop_drop,List.drop_drop]at h1;exact h1
theorem del_keep16 {p:Lc3->Bool}{l L:List Lc3}{i j:Nat}(h:DelP16 p l L i j){x:Lc3}(hx:l[j]?=some x)(hp:p x=false):DelP16 p l (L.set i x) (i+1) (j+1):=by
 have hj:=(List.getElem?_eq_some_iff.1 hx).1;have hi:=h.le;refine⟨by rw[List.length_set,h.len],by omega,?_,?_⟩
 ·rw[List.take_add_one,List.take_set_of_le (Nat.le_refl _),h.head,List.take_add_one,hx,List.filter_append]
  congr 1
  rw[List.getElem?_set_self (by rw[h.len];omega)];show _=List.filter _ [x]
  rw[List.filter_cons,hp]
  rfl
 ·rw[List.drop_set_of_lt (by omega)]
  have h1:=congrArg (List.drop 1) h.rest;rw[List.drop_drop,List.drop_drop]at h1;exact h1
theorem del_end16 {p:Lc3->Bool}{l L:List Lc3}{i:Nat}(h:DelP16 p l L i l.length):L.take i=l.filter fun k=>!p k:=by
 rw[h.head,List.take_of_length_le (Nat.le_refl _)]
theorem flat_set16 {l:List Lc3}{i:Nat}{x:Lc3}(hi:i<l.length):(l.set i x).flatMap lcC=splL (l.flatMap lcC) (i*3) (lcC x):=by
 unfold splL;have h1:=(qcm (l:=l) (i:=i) (by omega)).1;have h3:=(qcm (l:=l) (i:=i+1) (by omega)).2;rw[show(i+1)*3=i*3+3 by omega]at h3;rw[List.set_eq_take_append_cons_drop,if_pos hi,List.flatMap_append,List.flatMap_cons,h1,h3];simp[lcC]
theorem spl316 {X:List Value}{o:Nat}{a b c:Value}(h:o+3<=X.length):((X.set o a).set (o+1) b).set (o+2) c=splL X o [a,b,c]:=by
 apply List.ext_getElem?
 intro k;unfold splL;by_cases h1:k<o
 ·rw[List.getElem?_set_ne (by omega),List.getElem?_set_ne (by omega),List.getElem?_set_ne (by omega),List.getElem?_append_left (by simp;omega),List.getElem?_append_left (by simp;omega),List.getElem?_take,if_pos h1]
 ·by_cases h2:k<o+3
  ·rw[List.getElem?_append_left (by simp;omega),List.getElem?_append_right (by simp;omega)]
   rw[List.length_take,Nat.min_eq_left (by omega)]
   rcases(by omega:k=o\/k=o+1\/k=o+2)with rfl|rfl|rfl
   ·rw[List.getElem?_set_ne (by omega),List.getElem?_set_ne (by omega),List.getElem?_set_self (by omega)]
    simp
   ·rw[List.getElem?_set_ne (by omega),List.getElem?_set_self (by simp;omega),show o+1-o=1 by omega]
    rfl
   ·rw[List.getElem?_set_self (by simp;omega),show o+2-o=2 by omega]
    rfl
  ·rw[List.getElem?_set_ne (by omega),List.getElem?_set_ne (by omega),List.getElem?_set_ne (by omega),List.getElem?_append_right (by simp;omega)]
   rw[List.length_append,List.length_take,Nat.min_eq_left (by omega),List.getElem?_drop]
   congr 1
   simp;omega
theorem olco_any (x:Lc3)(d:Int)(g:Nat)(w:World)(hc:w.cell? ⟨g,0,none⟩=some (.int .i64 d)):
  Calls Tryz.prog 106 #[.agg (lcA x),.pointer (some ⟨g,0,none⟩)] w fun e w'=>e= .returned (.bool (!(x.train==d)))/\Below w.heap.size w w':=by
 obtain⟨wa,hwa,hbwa,HWA,HBWA,h0⟩:=bx1Z w 73 (lcA x);have c0:wa.cell? ⟨w.heap.size,1,none⟩=some (.int .i64 x.train):=h0.cell 1;have e0:wa.cell? ⟨g,0,none⟩=some (.int .i64 d):=(hbwa.cell (qag hc)).trans hc;clear hwa hbwa h0 hc;obtain⟨q,hq⟩:=geZ ((x.train==d));have z1:(x.train !=d)=!q:=by rw[<-hq];rfl
 rw[hq];unfold lcA at*;go_enter Tryz.func106,Tryz.ntmps106;go_upto_region 1 with fail;rw[HWA.out];clear HWA;go_wp2;go_ret
 exact⟨by first|rfl|(rw[hq];done)|simp_all,HBWA.out⟩
theorem oclonel_any (A:Option Addr)(n c:Nat)(l:List Lc3)(w:World)(hs:SlO lcC 3 w A n c l)(hn:n<=1000):
  Calls Tryz.prog 180 #[.slice A n c] w fun e w'=> ∃A' c',e= .returned (.slice A' n c')/\OwR lcC 3 73 w.heap.size w' A' n c' l/\Below w.heap.size w w':=by
 obtain⟨HLN,hs⟩:=hs;have H1:Hid (∀u∈l.flatMap lcC,u.oneCell'=true):=zq fun u hu=>by
  obtain⟨x,_,h⟩:=List.mem_flatMap.1 hu;exact one_lc16 x u h
 have HLN:=zq HLN;obtain⟨vs,hvs⟩:=geZ (l.flatMap lcC);have HVS:=zq hvs;rw[hvs]at hs H1;clear hvs;have HFIN:Hid (∀A' c' W,W.ownsRow w.heap.size 73 3 (.slice A' n c') n vs->OwR lcC 3 73 w.heap.size W A' n c' l):=zq fun A' c' W h=>⟨by rw[HVS.out];exact h,HLN.out⟩
 clear HVS HLN
 cases hA:A with
 |none=>
  subst hA;obtain⟨rfl,rfl⟩:=hs.2.1 rfl;have e0:vs=[]:=List.eq_nil_of_length_eq_zero (by simpa using hs.1);subst e0;have HO0:Hid (w.ownsRow w.heap.size 73 3 (.slice none 0 0) 0 []):=zq (World.ownsRow_nil w w.heap.size 73 3);have q1:=fun w:World=>Lib.run_eql_slice_nil (P:=Tryz.prog) w 28 73 none 0 0 0 0 Tryz.underlying28;simp only[Option.isNone]at q1;clear hs;go_enter Tryz.func180,Tryz.ntmps180;go_wp2;go_ret
  exact⟨none,0,rfl,HFIN.out _ _ _ HO0.out,Below.refl _ _⟩
 |some ad=>
  subst hA;have HSL:=zq (hs.beside (.cells #[] 73));have HO:=zq (World.ownsRow_lit (base:=w.heap.size) (e:=73) (size:=3) w #[] 0 (Nat.le_refl _) (by unfold maxLen;omega) rfl);have HB:Hid (0+n<=maxLen/\(0+n)*24<=140737488355328/\w.heap.size<=(w.alloc (.cells #[] 73)).heap.size):=zq ⟨by unfold maxLen;omega,by omega,by simp⟩;have HBL:Hid (Below w.heap.size w (w.alloc (.cells #[] 73))):=zq (bA);have q1:=fun w:World=>Lib.run_eql_slice_nil (P:=Tryz.prog) w 28 73 (some ad) n c 0 0 Tryz.underlying28;simp only[Option.isNone]at q1;clear hs;go_enter Tryz.func180,Tryz.ntmps180;go_wp2_with (with_reducible refine qaP (o:=⟨some 7,_,_,_,_,_⟩) rfl (.tmp 5) (.tmp 6) 28 rfl w.heap.size 73 (.agg #[.int .i64 0,.int .i64 0,.int .i64 0]) 3 24 Tryz.underlying28 qdL ?hz (by decide) (some ⟨w.heap.size,0,none⟩) 0 0 [] ?hs HO (some ad) n c vs ?hx HSL H1 HB ?next)
  all_goals try rfl
  intro A4 c4 w4 ho4 hg4;have HO4:Hid (w4.ownsRow w.heap.size 73 3 (.slice A4 n c4) n vs):=zq (by simpa using ho4.out);clear ho4;go_wp2;go_ret
  exact⟨A4,c4,rfl,HFIN.out _ _ _ HO4.out,qas HBL.out HB.out.2.2 HO.out (Nat.le_refl _) rfl hg4.out⟩
theorem oix_lo (p:Lc3->Bool)(l:List Lc3)(A:Option Addr)(n c:Nat)(g:Nat)(w:World)(hs:SlO lcC 3 w A n c l)(hbig:n<=1048576)
  (HE:Hid (∀(x:Lc3) W,Below w.heap.size w W->Calls Tryz.prog 106 #[.agg (lcA x),.pointer (some ⟨g,0,none⟩)] W fun e w'=>e= .returned (.bool (p x))/\Below W.heap.size W w')):
  Calls Tryz.prog 43 #[.slice A n c,.func (.func 106) #[] #[.pointer (some ⟨g,0,none⟩)]] w fun e w'=>e= .returned (.int .i64 (idxL p l))/\Below w.heap.size w w':=by
 try unfold lcA at HE
 have HN:Hid (l.length=n):=zq hs.len13;have HW:=zq hs;clear hs;have x0:(0:Int)<=n:=by omega
 obtain⟨R,hR⟩:=geZ (idxL p l);have HR:=zq hR;rw[hR];clear hR;go_enter Tryz.func43,Tryz.ntmps43;go_wp2;go_loopg [8] n (fun kk v wl=> ∃j:Nat,j<=n/\n-j<=kk/\v= .int .i64 j/\Hid (∀i x,i<j->l[i]?=some x->p x=false)/\Hid (Below w.heap.size w wl))
 case atStart=>exact⟨0,by omega,by omega,rfl,zq fun i x h=>absurd h (by omega),zq (Below.refl _ _)⟩
 obtain⟨j,hj,hjk,rfl,HNO,HBL⟩:=hrel;by_cases hlt:j<n
 ·obtain⟨x,hx⟩:=glZ l (j) (by rw[HN.out];omega)
  obtain⟨bk,off,rfl,d0,d1,d2⟩:=(HW.out.under HBL.out).lock hx;have HX:=zq hx;have y0:(0:Int)<=j:=by omega
  have y1:(j:Int)<n:=by omega
  have HC:=zq (HE.out x wr HBL.out);clear hx;generalize hb:p x=b at*;have HBE:=zq hb;clear hb
  cases b with
  |true=>
   have HF:Hid (R=j):=zq (by rw[<-HR.out];exact qbC HX.out HBE.out HNO.out);go_upto_region 4 with fail;go_wp2_with fail;refine HC.out.mono ?_;rintro e w1 ⟨rfl,hb1⟩;have HB1:=tB HBL hb1;clear hb1 d0 d1 d2 HBE HNO;go_wp2;go_ret
   exact⟨by rw[HF.out];rfl,HB1.out⟩
  |false=>
   go_upto_region 4 with fail;go_wp2_with fail;refine HC.out.mono ?_;rintro e w1 ⟨rfl,hb1⟩;have HB1:=tB HBL hb1;have HN2:Hid (∀i y,i<j+1->l[i]?=some y->p y=false):=zq fun i y hi hy=>by
    by_cases h:i=j
    ·subst h;rw[HX.out]at hy;cases hy;exact HBE.out
    ·exact HNO.out i y (by omega) hy
   clear hb1 d0 d1 d2 HBE HNO;go_wp2;go_roundg (gk-1)
   case measure=>omega
   case rel=>exact⟨j+1,by omega,by omega,by go_num,HN2,HB1⟩
 ·have y1: ¬(j:Int)<n:=by omega
  have HF:Hid (R= -1):=zq (by rw[<-HR.out];exact qbg fun i y hi hy=>HNO.out i y (by have:=HN.out;omega) hy);go_wp2;go_ret
  exact⟨by rw[HF.out];rfl,HBL.out⟩
theorem zero_lock16: ∀w,(zeroValue 73).run Tryz.prog w= .ok (.agg #[.int .i64 0,.int .i64 0,.int .i64 0]) w:=fun w=>by
 obtain⟨i,hi,hz,_,_⟩:=info_parts (P:=Tryz.prog) qdL;simp[zeroValue,typeInfo,hi,hz]
theorem owl_store16 {base b n c i:Nat}{w:World}{L:List Lc3}(h:OwR lcC 3 73 base w (some ⟨b,0,none⟩) n c L)(hi:i<n)(x:Lc3):OwR lcC 3 73 base (w.setCells b (i*3) (lcC x)) (some ⟨b,0,none⟩) n c (L.set i x)/\Below base w (w.setCells b (i*3) (lcC x))/\w.there b (i*3) 3:=by
 obtain⟨g,cur,e,hb,hg,hnc,hcm,hcs,ht⟩:=h.has;injection e with e _ _
 subst e;have hl:=h.2;have hlen:(L.flatMap lcC).length=n*3:=by rw[qbJ (f:=lcC) (k:=3) (fun _=>rfl),hl]
 refine⟨?_,?_,fun j hj=>⟨?_,hg.thaw _⟩⟩
 ·refine qfx hb (((hg.stored (i*3) (.int .i64 x.route)).stored (i*3+1) (.int .i64 x.train)).stored (i*3+2) (.int .i64 x.no)) hnc hcm (by simpa using hcs) (by rw[List.length_set,hl]) ?_
  rw[Array.toList_setIfInBounds,Array.toList_setIfInBounds,Array.toList_setIfInBounds,List.take_set,List.take_set,List.take_set,ht,spl316 (by rw[hlen];omega),flat_set16 (by rw[hl];exact hi)]
  rfl
 ·exact(((Below.refl _ _).setCell (p:=⟨b,i*3,none⟩) hb _).setCell (p:=⟨b,i*3+1,none⟩) hb _).setCell (p:=⟨b,i*3+2,none⟩) hb _
 ·rw[hg.cell,Array.getElem?_eq_getElem (by rw[hcs];omega)]
  rfl
theorem owl_clear16 {base b n c i:Nat}{w:World}{L:List Lc3}(h:OwR lcC 3 73 base w (some ⟨b,0,none⟩) n c L)(hi:i<n):
  ∃W,(∀ty dc,(Builtin.clear_ #[28] ty #[.slice (some ⟨b,i*3,none⟩) (n-i) dc]).run Tryz.prog w= .ok (.tuple #[]) W)/\OwR lcC 3 73 base W (some ⟨b,0,none⟩) i c (L.take i)/\Below base w W:=by
 obtain⟨g,cur,e,hb,hg,hnc,hcm,hcs,ht⟩:=h.has;injection e with e _ _
 subst e;have hl:=h.2;have hZ:(Builtin.zeroCells (Value.agg #[.int .i64 0,.int .i64 0,.int .i64 0]).cells (n-i)).toList.length=(n-i)*3:=by simp[Builtin.zeroCells,Value.cells]
 have hcl:cur.toList.length=c*3:=by rw[Array.length_toList,hcs]
 refine⟨w.setRow b (splL cur.toList (i*3) (Builtin.zeroCells (Value.agg #[.int .i64 0,.int .i64 0,.int .i64 0]).cells (n-i)).toList).toArray,fun ty dc=>?_,?_,qac (Below.refl _ _) hb _⟩
 ·refine qfR w 28 73 ty _ Tryz.underlying28 zero_lock16 (by intro v hv;simp[Value.cells]at hv;subst hv;rfl) b (i*3) (n-i) dc cur hg ?_ (by omega)
  show i*3+(n-i)*3<=cur.size
  rw[hcs];omega
 ·have h1:OwR lcC 3 73 base w (some ⟨b,0,none⟩) i c (L.take i):=owl_take16 h (by omega)
  refine qfx hb (qab hg _) (by omega) hcm (by rw[List.size_toArray,splL_len _ _ _ (by rw[hZ,hcl];omega),hcl]) (by rw[List.length_take,hl];omega) ?_;rw[List.toList_toArray,splL_take _ _ _ (by rw[hcl];omega)];rw[(qcm (by rw[hl];omega)).1,<-ht,List.take_take,Nat.min_eq_left (by omega)]
theorem odf_lo (p:Lc3->Bool)(l:List Lc3)(A:Option Addr)(n c base:Nat)(g:Nat)(w:World)(hs:OwR lcC 3 73 base w A n c l)(hbig:n<=1000)(hbase:base<=w.heap.size)
  (HE:Hid (∀(x:Lc3) W,Below base w W->Calls Tryz.prog 106 #[.agg (lcA x),.pointer (some ⟨g,0,none⟩)] W fun e w'=>e= .returned (.bool (p x))/\Below W.heap.size W w')):
  Calls Tryz.prog 179 #[.slice A n c,.func (.func 106) #[] #[.pointer (some ⟨g,0,none⟩)]] w fun e w'=> ∃k,e= .returned (.slice A k c)/\OwR lcC 3 73 base w' A k c (l.filter fun k=>!p k)/\Below base w w':=by
 have HIX:=zq (oix_lo p l A n c g w hs.sl (by omega) (zq fun x W hW=>HE.out x W (hW.mono hbase)));have HLN:=zq hs.2;have HS:=zq hs;have HBS:=zq hbase
 rcases qbK p l 0 with⟨h1,h2⟩|⟨i,x,h1,h2,h3,h4⟩
 ·have HF:Hid (l.filter (fun k=>!p k)=l):=zq (by
   rw[List.filter_eq_self];intro y hy;obtain⟨k,hk,rfl⟩:=List.getElem_of_mem hy;rw[h2 k _ (List.getElem?_eq_getElem hk)]
   rfl)
  rw[show idxL p l= -1 from h1]at HIX;clear h1 h2 hs hbase HE;go_enter Tryz.func179,Tryz.ntmps179;go_wp2_with fail;refine HIX.out.mono ?_;rintro e w1 ⟨rfl,hb1⟩;have HO1:=zq (HS.out.under hb1);have HB1:=zq (hb1.mono HBS.out);clear hb1 HIX HS;go_wp2;go_ret
  exact⟨n,rfl,by rw[HF.out];exact HO1.out,HB1.out⟩
 ·have hin:i<n:=by have h_:=(List.getElem?_eq_some_iff.1 h1).1;have:=HLN.out;omega
  have HD0:=zq (del_start16 h1 h2 h3);have e0:idxL p l=(i:Int):=by unfold idxL;rw[h4];congr 1;omega
  rw[e0]at HIX;obtain⟨b,rfl,hbb,_⟩:=hs.some (by omega);have HCN:=zq hs.cap;have HBB:=zq hbb;have x0:(0:Int)<=i:=by omega
  have x1:(i:Int)<n:=by omega
  have x2:(n:Int)<=1000:=by omega
  have x3: ¬((i:Int)= -1):=by omega
  have HNB:=zq (show i+1<=n/\n<=1000 from⟨hin,hbig⟩);clear h1 h2 h3 h4 e0 hs hbase hin hbb hbig;go_enter Tryz.func179,Tryz.ntmps179;go_wp2_with fail;refine HIX.out.mono ?_;rintro e w1 ⟨rfl,hb1⟩;have HO1:=zq (HS.out.under hb1);have HB1:=zq (hb1.mono HBS.out);clear hb1 HIX HS;go_upto_region 5 with fail;clear x0 x1 x2 x3;go_loopg [5,6] n (fun kk v5 v6 wl=> ∃(i j:Nat) (L:List Lc3),j<=n/\n-j<=kk/\v5= .int .i64 i/\v6= .int .i64 j/\Hid (DelP16 p l L i j)/\Hid (OwR lcC 3 73 base wl (some ⟨b,0,none⟩) n c L)/\Hid (Below base w wl))
  case atStart=>exact⟨i,i+1,l,HNB.out.1,by omega,rfl,by first|rfl|(rw[IntWalk.wrap64_in _ (by have:=HNB.out;omega)];go_num)|go_num,HD0,HO1,HB1⟩
  clear HO1 HB1 HD0;obtain⟨i,j,L,hj,hjk,rfl,rfl,HD,HO,HB⟩:=hrel;obtain⟨k1,hk1⟩: ∃k1,k1=gk:=⟨_,rfl⟩
  subst hk1;obtain⟨wv,hwv⟩: ∃wv,wv=wr:=⟨_,rfl⟩
  subst hwv;by_cases hlt:j<n;rotate_left
  ·obtain rfl:j=n:=by omega
   have hdi:=HD.out.le;obtain⟨W,hcl,hoW,hbW⟩:=owl_clear16 HO.out hdi;have HF:Hid (L.take i=l.filter fun k=>!p k):=zq (by have h_:=HLN.out;have h2_:=HD.out;rw[<-h_]at h2_;exact del_end16 h2_);have HOW:=zq hoW;have HBW:=zq (HB.out.trans hbW);have y0:(0:Int)<=i:=by omega
   have y1:(i:Int)<=j:=by omega
   have y2:i<=j:=by omega
   have y3:j<=c:=HCN.out;have y4: ¬c=i:=by omega
   have y5:(j:Int)<=c:=by omega
   have y6:i<=c:=by omega
   have y7:(i:Int)<=c:=by omega
   have y8: ¬(j:Int)<j:=by omega
   clear hoW hbW hjk hlt hj hdi HD HO HB;go_wp2;go_ret
   exact⟨i,rfl,by rw[<-HF.out];exact HOW.out,HBW.out⟩
  obtain⟨x,hx⟩:=glZ l (j) (by rw[HLN.out];exact hlt);have HX:=zq hx;obtain⟨bk,off,e_,d0,d1,d2⟩:=HO.out.sl.lock (del_at16 HD.out hx);injection e_ with e_
  injection e_ with e1_ e2_ _
  subst e1_ e2_;rw[Nat.zero_add]at d0 d1 d2;have HIN:=zq (show j<n/\n-j<=k1 from⟨hlt,hjk⟩);have HDI:=zq (show i<n from by have:=HD.out.le;omega);have y0:(0:Int)<=j:=by omega
  have y1:(j:Int)<n:=by omega
  clear hx hjk hlt hj;obtain⟨kr,kt,kn⟩:=x;dsimp only at d0 d1 d2;go_upto_region 8 with fail;obtain⟨wb,hwb⟩:=geZ (wv.alloc (.cells #[.int .i64 kr,.int .i64 kt,.int .i64 kn] 73));rw[hwb];have hbb:Below base wv wb:=by rw[<-hwb];exact(Below.refl _ _).alloc (Nat.le_trans HBS.out HB.out.size) _
  have hH:Has wb wv.heap.size 73 #[.int .i64 kr,.int .i64 kt,.int .i64 kn]:=by rw[<-hwb];exact Has.made _ _ _
  have HBW:=zq (HB.out.trans hbb);have HOW:=zq (HO.out.under (show Below wv.heap.size wv wb from by rw[<-hwb];exact bA));obtain⟨gl,hgl⟩: ∃g,wv.heap.size=g:=⟨_,rfl⟩
  simp only[hgl]at hH⊢;have HH:=zq hH;clear hwb hbb hH hgl d0 d1 d2 HO HB;have HC:=zq (HE.out ⟨kr,kt,kn⟩ wb HBW.out);unfold lcA at HC;dsimp only at HC;obtain⟨q,hq⟩:=geZ (p ⟨kr,kt,kn⟩);rw[hq]at HC;have HQ:=zq hq;clear hq;go_wp2_with (with_reducible refine ldZ 27 HH.out ?_);refine HC.out.mono ?_;rintro e w2 ⟨rfl,hb2⟩;have HB2:=zq (HBW.out.trans (hb2.mono (Nat.le_trans HBS.out HBW.out.size)));have HO2:=zq (HOW.out.under hb2);have HH2:=uH HH hb2;clear hb2 HC HOW HBW HH
  cases q with
  |true=>
   have HD2:=zq (del_drop16 HD.out HX.out HQ.out);clear HD HX HQ HH2;go_wp2;go_roundg (k1-1)
   case measure=>have:=HIN.out;omega
   case rel=>exact⟨i,j+1,L,by have:=HIN.out;omega,by have:=HIN.out;omega,rfl,by rw[IntWalk.wrap64_in _ (by have h1_:=HIN.out;have h2_:=HNB.out;omega)];go_num,HD2,HO2,HB2⟩
  |false=>
   have HD2:=zq (del_keep16 HD.out HX.out HQ.out);have HST:=zq (owl_store16 HO2.out HDI.out ⟨kr,kt,kn⟩);unfold lcC at HST;dsimp only at HST;obtain⟨hs1,hs2,hs3⟩:=HST.out;have HO3:=zq hs1;have HB3:=zq (HB2.out.trans hs2);have HTH:Hid (w2.there b (i*3) (#[.int .i64 kr,.int .i64 kt,.int .i64 kn]:Array Value).size):=zq hs3;have z0:(0:Int)<=i:=by omega
   have z1:(i:Int)<n:=by have:=HDI.out;omega
   clear HD HX HQ hs1 hs2 hs3 HST HO2;go_wp2_with (first|(with_reducible refine ldZ 32 HH2.out ?_)|(with_reducible refine wpList_store_mid (op:=⟨none,_,_,_,_,_⟩) rfl 73 _ _ rfl b (i*3) #[.int .i64 kr,.int .i64 kt,.int .i64 kn] rfl rfl HTH.out (by kernel_rfl) (by kernel_rfl) ?_));go_roundg (k1-1)
   case measure=>have:=HIN.out;omega
   case rel=>exact⟨i+1,j+1,L.set i ⟨kr,kt,kn⟩,by have:=HIN.out;omega,by have:=HIN.out;omega,by rw[IntWalk.wrap64_in _ (by have h1_:=HDI.out;have h2_:=HNB.out;omega)];go_num,by rw[IntWalk.wrap64_in _ (by have h1_:=HIN.out;have h2_:=HNB.out;omega)];go_num,HD2,HO3,HB3⟩
theorem owo_lo (p:Lc3->Bool)(l:List Lc3)(A:Option Addr)(n c:Nat)(g:Nat)(w:World)(hs:SlO lcC 3 w A n c l)(hn:n<=1000)
  (HE:Hid (∀(x:Lc3) W,Below w.heap.size w W->Calls Tryz.prog 106 #[.agg (lcA x),.pointer (some ⟨g,0,none⟩)] W fun e w'=>e= .returned (.bool (p x))/\Below W.heap.size W w')):
  Calls Tryz.prog 105 #[.slice A n c,.func (.func 106) #[] #[.pointer (some ⟨g,0,none⟩)]] w fun e w'=> ∃X k x,e= .returned (.slice X k x)/\OwR lcC 3 73 w.heap.size w' X k x (l.filter fun k=>!p k)/\Below w.heap.size w w':=by
 have H:=zq (oclonel_any A n c l w hs hn);have HN:=zq hn;clear hs hn;go_enter Tryz.func105,Tryz.ntmps105;go_wp2_with fail;refine H.out.mono ?_;rintro e w1 ⟨X,x,rfl,ho1,hb1⟩;have HO1:=zq ho1;have HB1:=zq hb1;clear ho1 hb1 H;go_wp2_with fail;refine(odf_lo p l X n x w.heap.size g w1 HO1.out HN.out HB1.out.size (zq fun y W hW=>HE.out y W (HB1.out.trans hW))).mono ?_;rintro e w2 ⟨k,rfl,ho2,hb2⟩;have HO2:=zq ho2;have HB2:=zq (HB1.out.trans hb2);clear ho2 hb2 HO1 HB1;go_wp2;go_ret
 exact⟨X,k,x,rfl,HO2.out,HB2.out⟩
theorem of_eq16 (l:List Lc3)(train:Int):(l.filter fun k=>!(!(k.train==train)))=ofL l train:=by
 unfold ofL
 congr 1
 funext k
 rw[Bool.not_not]
theorem oolof_any (l:List Lc3)(train:Int)(A:Option Addr)(n c:Nat)(w:World)(hs:SlO lcC 3 w A n c l)(hn:n<=1000):
  Calls Tryz.prog 40 #[.slice A n c,.int .i64 train] w fun r w'=> ∃X k x,r= .returned (.slice X k x)/\LkT w' X k x (ofL l train)/\Below w.heap.size w w':=by
 obtain⟨wa,hwa,hbwa,HWA,HBWA,h0⟩:=bx1Z w 3 #[.int .i64 train];have n0:wa.cell? ⟨w.heap.size,0,none⟩=some (.int .i64 train):=h0.cell 0;have H:=zq (owo_lo (fun k=>!(k.train==train)) l A n c (w.heap.size) wa (hs.under hbwa) hn (zq fun x W hW=>olco_any x train (w.heap.size) W ((hW.cell (qag n0)).trans n0)));rw[of_eq16]at H;generalize ofL l train=R at*;clear hwa hbwa h0 hs n0 hn;go_enter Tryz.func40,Tryz.ntmps40;go_upto_region 1 with fail;rw[HWA.out];clear HWA;go_wp2_with fail;refine H.out.mono ?_;rintro e_ w1 ⟨X,k,x,rfl,ho1,hb1⟩;have HO1:=zq (LkT.of_own ho1);have HB1:=tB HBWA hb1;clear hb1 ho1 H HBWA;go_wp2;go_ret
 exact⟨X,k,x,rfl,HO1.out,HB1.out⟩
end
section
open Go.RowKit
open Go.Great
theorem find_none17 {α:Type}{p:α->Bool}{l:List α}(h: ∀j y,j<l.length->l[j]?=some y->p y=false):l.find? p=none:=by
 rw[List.find?_eq_none];intro y hy;obtain⟨j,hj,rfl⟩:=List.getElem_of_mem hy;rw[h j _ hj (List.getElem?_eq_getElem hj)]
 decide
theorem qff {α:Type}{p:α->Bool}{l:List α}{i:Nat}{x:α}(hx:l[i]?=some x)(hp:p x=true)(hno: ∀j y,j<i->l[j]?=some y->p y=false):l.find? p=some x:=by
 rw[List.find?_eq_some_iff_append];obtain⟨hi,e⟩:=List.getElem?_eq_some_iff.1 hx;refine⟨hp,l.take i,l.drop (i+1),?_,fun y hy=>?_⟩
 ·rw[<-e,<-List.drop_eq_getElem_cons hi,List.take_append_drop]
 ·obtain⟨j,hj,rfl⟩:=List.getElem_of_mem hy
  rw[List.length_take]at hj;rw[List.getElem_take,hno j _ (by omega) (List.getElem?_eq_getElem (by omega))]
  rfl
theorem chain_next17 {t:Tp3}{l:List Lc3}{train:Int}{s:St3}{k:Nat}{q:List Lc3}{y:Lc3}(hk:k<8)(h:l.find? (okC t train s q)=some y):qbZ t l train s (8-k) q=qbZ t l train s (8-(k+1)) (q++[y]):=by
 rw[show 8-k=(8-(k+1))+1 by omega,qbZ,h]
theorem qeP {t:Tp3}{l:List Lc3}{train:Int}{s:St3}{k:Nat}{q:List Lc3}(h: ¬k<8\/l.find? (okC t train s q)=none):qbZ t l train s (8-k) q=q:=by
 cases hq:8-k with
 |zero=>rfl
 |succ j=>
  rcases h with h|h
  ·omega
  ·rw[qbZ,h]
theorem okC_rt {t:Tp3}{train:Int}{s:St3}{q:List Lc3}{y:Lc3}(h:okC t train s q y=true):(qaR t y.route).isSome=true:=by
 unfold okC at h;simp only[Bool.and_eq_true]at h;exact h.1.2
theorem path_some17 {t:Tp3}(hc:qax t=0){id:Int}(h:(qaR t id).isSome=true):1<=(pathR t id).length:=by
 obtain⟨r,h1,h2,h3⟩:=qcJ hc h;rw[h2];have h4:=(qej h3).2.1;omega
theorem last_at17 {l:List St3}(h:1<=l.length):l[l.length-1]?=some (lastS l):=by
 unfold lastS;rw[List.getLastD_eq_getLast?,List.getLast?_eq_getElem?,List.getElem?_eq_getElem (by omega)]
 rfl
end
section
structure VRow where
 name:ByteArray
 width:Nat
 most:Int
 special:Int
def vrows:List VRow:=[
 ⟨⟨#[78,73,68,95,77,69,83,83,65,71,69]⟩,8,-1,-1⟩,
 ⟨⟨#[76,95,77,69,83,83,65,71,69]⟩,10,-1,-1⟩,
 ⟨⟨#[84,95,84,82,65,73,78]⟩,32,-1,-1⟩,
 ⟨⟨#[77,95,65,67,75]⟩,1,-1,-1⟩,
 ⟨⟨#[78,73,68,95,76,82,66,71]⟩,24,-1,-1⟩,
 ⟨⟨#[78,73,68,95,80,65,67,75,69,84]⟩,8,-1,-1⟩,
 ⟨⟨#[81,95,68,73,82]⟩,2,2,-1⟩,
 ⟨⟨#[76,95,80,65,67,75,69,84]⟩,13,-1,-1⟩,
 ⟨⟨#[81,95,83,67,65,76,69]⟩,2,2,-1⟩,
 ⟨⟨#[78,73,68,95,69,78,71,73,78,69]⟩,24,-1,-1⟩,
 ⟨⟨#[78,73,68,95,67]⟩,10,-1,-1⟩,
 ⟨⟨#[78,73,68,95,66,71]⟩,14,-1,-1⟩,
 ⟨⟨#[81,95,78,69,87,67,79,85,78,84,82,89]⟩,1,-1,-1⟩,
 ⟨⟨#[68,95,76,82,66,71]⟩,15,-1,-1⟩,
 ⟨⟨#[81,95,68,73,82,76,82,66,71]⟩,2,2,-1⟩,
 ⟨⟨#[81,95,68,76,82,66,71]⟩,2,2,-1⟩,
 ⟨⟨#[76,95,68,79,85,66,84,79,86,69,82]⟩,15,-1,-1⟩,
 ⟨⟨#[76,95,68,79,85,66,84,85,78,68,69,82]⟩,15,-1,-1⟩,
 ⟨⟨#[81,95,76,69,78,71,84,72]⟩,2,-1,-1⟩,
 ⟨⟨#[76,95,84,82,65,73,78,73,78,84]⟩,15,-1,-1⟩,
 ⟨⟨#[86,95,84,82,65,73,78]⟩,7,120,127⟩,
 ⟨⟨#[81,95,68,73,82,84,82,65,73,78]⟩,2,2,-1⟩,
 ⟨⟨#[77,95,77,79,68,69]⟩,4,14,-1⟩,
 ⟨⟨#[77,95,76,69,86,69,76]⟩,3,4,-1⟩,
 ⟨⟨#[78,73,68,95,78,84,67]⟩,8,-1,-1⟩,
 ⟨⟨#[86,95,69,77,65]⟩,7,120,-1⟩,
 ⟨⟨#[84,95,69,77,65]⟩,10,-1,-1⟩,
 ⟨⟨#[78,95,73,84,69,82]⟩,5,-1,-1⟩,
 ⟨⟨#[76,95,83,69,67,84,73,79,78]⟩,15,-1,-1⟩,
 ⟨⟨#[81,95,83,69,67,84,73,79,78,84,73,77,69,82]⟩,1,-1,-1⟩,
 ⟨⟨#[84,95,83,69,67,84,73,79,78,84,73,77,69,82]⟩,10,-1,-1⟩,
 ⟨⟨#[68,95,83,69,67,84,73,79,78,84,73,77,69,82,83,84,79,80,76,79,67]⟩,15,-1,-1⟩,
 ⟨⟨#[76,95,69,78,68,83,69,67,84,73,79,78]⟩,15,-1,-1⟩,
 ⟨⟨#[81,95,69,78,68,84,73,77,69,82]⟩,1,-1,-1⟩,
 ⟨⟨#[84,95,69,78,68,84,73,77,69,82]⟩,10,-1,-1⟩,
 ⟨⟨#[68,95,69,78,68,84,73,77,69,82,83,84,65,82,84,76,79,67]⟩,15,-1,-1⟩,
 ⟨⟨#[81,95,68,65,78,71,69,82,80,79,73,78,84]⟩,1,-1,-1⟩,
 ⟨⟨#[68,95,68,80]⟩,15,-1,-1⟩,
 ⟨⟨#[86,95,82,69,76,69,65,83,69,68,80]⟩,7,120,126⟩,
 ⟨⟨#[81,95,79,86,69,82,76,65,80]⟩,1,-1,-1⟩,
 ⟨⟨#[68,95,83,84,65,82,84,79,76]⟩,15,-1,-1⟩,
 ⟨⟨#[84,95,79,76]⟩,10,-1,-1⟩,
 ⟨⟨#[68,95,79,76]⟩,15,-1,-1⟩,
 ⟨⟨#[86,95,82,69,76,69,65,83,69,79,76]⟩,7,120,126⟩,
 ⟨⟨#[68,95,76,73,78,75]⟩,15,-1,-1⟩,
 ⟨⟨#[81,95,76,73,78,75,79,82,73,69,78,84,65,84,73,79,78]⟩,1,-1,-1⟩,
 ⟨⟨#[81,95,76,73,78,75,82,69,65,67,84,73,79,78]⟩,2,2,-1⟩,
 ⟨⟨#[81,95,76,79,67,65,67,67]⟩,6,-1,-1⟩,
 ⟨⟨#[68,95,71,82,65,68,73,69,78,84]⟩,15,-1,-1⟩,
 ⟨⟨#[81,95,71,68,73,82]⟩,1,-1,-1⟩,
 ⟨⟨#[71,95,65]⟩,8,-1,-1⟩,
 ⟨⟨#[68,95,83,84,65,84,73,67]⟩,15,-1,-1⟩,
 ⟨⟨#[86,95,83,84,65,84,73,67]⟩,7,120,127⟩,
 ⟨⟨#[81,95,70,82,79,78,84]⟩,1,-1,-1⟩,
 ⟨⟨#[78,67,95,68,73,70,70]⟩,4,-1,-1⟩,
 ⟨⟨#[86,95,68,73,70,70]⟩,7,120,-1⟩,
 ⟨⟨#[68,95,77,65,77,79,68,69]⟩,15,-1,-1⟩,
 ⟨⟨#[77,95,77,65,77,79,68,69]⟩,2,2,-1⟩,
 ⟨⟨#[86,95,77,65,77,79,68,69]⟩,7,120,127⟩,
 ⟨⟨#[76,95,77,65,77,79,68,69]⟩,15,-1,-1⟩,
 ⟨⟨#[76,95,65,67,75,77,65,77,79,68,69]⟩,15,-1,-1⟩,
 ⟨⟨#[81,95,77,65,77,79,68,69]⟩,1,-1,-1⟩,
 ⟨⟨#[81,95,82,66,67]⟩,1,-1,-1⟩,
 ⟨⟨#[78,73,68,95,82,66,67]⟩,14,-1,-1⟩,
 ⟨⟨#[78,73,68,95,82,65,68,73,79]⟩,32,-1,-1⟩,
 ⟨⟨#[81,95,83,76,69,69,80,83,69,83,83,73,79,78]⟩,1,-1,-1⟩,
 ⟨⟨#[84,95,77,65,82]⟩,8,-1,-1⟩,
 ⟨⟨#[84,95,84,73,77,69,79,85,84,82,81,83,84]⟩,10,-1,-1⟩,
 ⟨⟨#[84,95,67,89,67,82,81,83,84]⟩,8,-1,-1⟩,
 ⟨⟨#[84,95,67,89,67,76,79,67]⟩,8,-1,-1⟩,
 ⟨⟨#[68,95,67,89,67,76,79,67]⟩,15,-1,-1⟩,
 ⟨⟨#[77,95,76,79,67]⟩,3,2,-1⟩,
 ⟨⟨#[68,95,76,79,67]⟩,15,-1,-1⟩,
 ⟨⟨#[81,95,76,71,84,76,79,67]⟩,1,-1,-1⟩,
 ⟨⟨#[78,73,68,95,80,82,86,76,82,66,71]⟩,24,-1,-1⟩,
 ⟨⟨#[78,73,68,95,79,80,69,82,65,84,73,79,78,65,76]⟩,32,-1,-1⟩,
 ⟨⟨#[78,67,95,84,82,65,73,78]⟩,15,-1,-1⟩,
 ⟨⟨#[76,95,84,82,65,73,78]⟩,12,-1,-1⟩,
 ⟨⟨#[86,95,77,65,88,84,82,65,73,78]⟩,7,120,-1⟩,
 ⟨⟨#[77,95,76,79,65,68,73,78,71,71,65,85,71,69]⟩,8,-1,-1⟩,
 ⟨⟨#[77,95,65,88,76,69,76,79,65,68]⟩,7,-1,-1⟩,
 ⟨⟨#[77,95,65,73,82,84,73,71,72,84]⟩,2,1,-1⟩,
 ⟨⟨#[77,95,84,82,65,67,84,73,79,78]⟩,8,-1,-1⟩,
 ⟨⟨#[78,73,68,95,83,84,77]⟩,8,-1,-1⟩,
 ⟨⟨#[68,95,86,65,76,73,68,78,86]⟩,15,-1,-1⟩,
 ⟨⟨#[86,95,78,86,83,72,85,78,84]⟩,7,120,-1⟩,
 ⟨⟨#[84,95,78,86,67,79,78,84,65,67,84]⟩,8,-1,-1⟩,
 ⟨⟨#[77,95,78,86,67,79,78,84,65,67,84]⟩,2,2,-1⟩,
 ⟨⟨#[78,73,68,95,69,77]⟩,4,-1,-1⟩,
 ⟨⟨#[68,95,82,69,70]⟩,16,-1,-1⟩,
 ⟨⟨#[68,95,69,77,69,82,71,69,78,67,89,83,84,79,80]⟩,15,-1,-1⟩,
 ⟨⟨#[81,95,69,77,69,82,71,69,78,67,89,83,84,79,80]⟩,2,-1,-1⟩,
 ⟨⟨#[77,95,86,69,82,83,73,79,78]⟩,7,-1,-1⟩,
 ⟨⟨#[81,95,83,84,65,84,85,83]⟩,2,-1,-1⟩,
 ⟨⟨#[81,95,77,65,82,81,83,84,82,69,65,83,79,78]⟩,5,-1,-1⟩,
 ⟨⟨#[68,95,83,82]⟩,15,-1,-1⟩]
def vnone:VRow:=⟨ByteArray.empty,0,0,0⟩
def vrow (v:Int):VRow:=if 0<=v/\v<96 then vrows.getD v.toNat vnone else vnone
theorem qeI {v:Int}(h:0<=v/\v<96):vrow v=vrows.getD v.toNat vnone:=if_pos h
theorem qep {v:Int}(h: ¬(0<=v/\v<96)):vrow v=vnone:=if_neg h
theorem qbY:vrows.length=96:=by decide
def qak (v:Int):Nat:=(vrow v).width
def qbn (v:Int):Int:=if(vrow v).most<0 then 2^qak v-1 else(vrow v).most
def qbk (v:Int):Int:=if(vrow v).special<0 then 0 else(vrow v).special
def qa8 (v:Int):Int:=2^qak v-1
def mayOf (v n:Int):Bool:=decide (0<=v/\v<96) &&decide (0<=n) &&(decide (n<=qbn v)||(decide (qbk v≠0) &&decide (qbk v<=n) &&decide (n<=qa8 v)))
def qd1 (s:ByteArray):List VRow->Nat->Int
 |[],_=> -1
 |r::l,i=>if r.name=s then(i:Int)else qd1 s l (i+1)
def findOf (s:ByteArray):Int:=qd1 s vrows 0
theorem vall (p:Nat->Bool)(h:(List.range 96).all p=true)(v:Int)(h0:0<=v)(h1:v<96):p v.toNat=true:=
 List.all_eq_true.1 h v.toNat (List.mem_range.2 (by omega))
end
section
open Go.RowKit
def Wd (w:World):Prop:= ∀i,i<96->w.cell? ⟨0,i,none⟩=some (.int .i64 (((vrows.getD i vnone).width:Nat):Int))
theorem Wd.under {w w':World}(h:Wd w)(hb:Below w.heap.size w w'):Wd w':=fun i hi=>by
 rw[hb.cell (qag (h i hi))];exact h i hi
theorem qby (a b:ByteArray):(a.toList==b.toList)=decide (a=b):=by
 rw[ByteArray.toList_eq,ByteArray.toList_eq];by_cases h:a=b
 ·simp[h]
 ·have:a.data.toList≠b.data.toList:=fun e=>h (by
   cases a;cases b
   simp only[ByteArray.mk.injEq];exact Array.toList_inj.1 e)
  rw[beq_eq_false_iff_ne.2 this,decide_eq_false h]
theorem qcB (v:Int)(h0:0<=v)(h1:v<96)(w:World):
  Calls Tryz.prog 242 #[.int .i64 v] w fun e w'=>e= .returned (.bool true)/\w=w':=by
 go_enter Tryz.func242,Tryz.ntmps242;go_wp2;go_ret
 exact⟨rfl,rfl⟩
theorem exists_no (v:Int)(h: ¬(0<=v/\v<96))(w:World):
  Calls Tryz.prog 242 #[.int .i64 v] w fun e w'=>e= .returned (.bool false)/\w=w':=by
 by_cases h0:0<=v
 ·have h1: ¬v<96:=by omega
  clear h;go_enter Tryz.func242,Tryz.ntmps242;go_wp2;go_ret
  exact⟨rfl,rfl⟩
 ·clear h
  go_enter Tryz.func242,Tryz.ntmps242;go_wp2;go_ret
  exact⟨rfl,rfl⟩
theorem qeq (v:Int)(w:World)(hw:Wd w):
  Calls Tryz.prog 212 #[.int .i64 v] w fun e w'=>e= .returned (.int .i64 ((qak v:Nat):Int))/\w=w':=by
 by_cases h:0<=v/\v<96
 ·have hc:=hw v.toNat (by omega)
  rw[qak,qeI h];generalize (vrows.getD v.toNat vnone).width=W at*;obtain⟨h0,h1⟩:=h;have HW:=zq hw;clear hw;go_enter Tryz.func212,Tryz.ntmps212;go_wp2_with fail;refine(qcB v h0 h1 w).mono ?_;rintro e w' ⟨rfl,rfl⟩;go_wp2;go_ret
  exact⟨rfl,rfl⟩
 ·rw[qak,qep h]
  have H:=zq h;clear h hw;go_enter Tryz.func212,Tryz.ntmps212;go_wp2_with fail;refine(exists_no v H.out w).mono ?_;rintro e w' ⟨rfl,rfl⟩;go_wp2;go_ret
  exact⟨rfl,rfl⟩
theorem qer (v:Int):qak v<=32:=by
 by_cases h:0<=v/\v<96
 ·have:=vall (fun i=>decide ((vrows.getD i vnone).width<=32)) (by decide+kernel) v h.1 h.2
  rw[qak,qeI h];exact of_decide_eq_true this
 ·rw[qak,qep h];decide
theorem qeU (v:Int)(w:World)(hw:Wd w):
  Calls Tryz.prog 265 #[.int .i64 v] w fun e w'=>e= .returned (.int .i64 (qa8 v))/\w=w':=by
 have hle:=qer v;have c:=qeq v w hw;rw[qa8];generalize qak v=W at*;obtain⟨P,hP⟩: ∃P,P=2^W:=⟨_,rfl⟩
 have hP1:1<=P:=by rw[hP];exact Nat.one_le_two_pow
 have hP2:P<=2^32:=by rw[hP];exact Nat.pow_le_pow_right (by omega) hle
 have e:((2:Int)^W)=(P:Int):=by rw[hP];simp
 rw[e];have C:=zq c;clear c;have HP:=zq hP;clear hP;have HW:=zq hw;clear hw;go_enter Tryz.func265,Tryz.ntmps265;go_wp2_with fail;refine C.out.mono ?_;rintro e w' ⟨rfl,rfl⟩;go_wp2;go_ret
 exact⟨rfl,rfl⟩
theorem special_none (v:Int)(h: ¬(v=38\/v=43\/v=20\/v=52\/v=58)):qbk v=0:=by
 by_cases hv:0<=v/\v<96
 ·have:=vall (fun i=>decide ((vrows.getD i vnone).special<0\/i=38\/i=43\/i=20\/i=52\/i=58)) (by decide+kernel) v hv.1 hv.2
  have:=of_decide_eq_true this;rw[qbk,qeI hv,if_pos (by omega)]
 ·rw[qbk,qep hv];rfl
theorem special_any (v:Int)(w:World):
  Calls Tryz.prog 263 #[.int .i64 v] w fun e w'=>e= .returned (.int .i64 (qbk v))/\w=w':=by
 by_cases h:v=38\/v=43\/v=20\/v=52\/v=58
 ·rcases h with rfl|rfl|rfl|rfl|rfl
  all_goals
   go_enter Tryz.func263,Tryz.ntmps263;go_wp2;go_ret
   exact⟨by kernel_rfl,rfl⟩
 ·rw[special_none v h]
  have h1:v≠38:=by omega
  have h2:v≠43:=by omega
  have h3:v≠20:=by omega
  have h4:v≠52:=by omega
  have h5:v≠58:=by omega
  clear h;go_enter Tryz.func263,Tryz.ntmps263;go_wp2;go_ret
  exact⟨rfl,rfl⟩
theorem most_else (v:Int)(h: ¬(v=81\/v=6\/v=8\/v=14\/v=15\/v=21\/v=46\/v=57\/v=71\/v=87\/v=23\/v=22\/v=20\/v=25\/v=38\/v=43\/v=52\/v=55\/v=58\/v=78\/v=85)):qbn v=qa8 v:=by
 by_cases hv:0<=v/\v<96
 ·have:=vall (fun i=>decide ((vrows.getD i vnone).most<0\/i=81\/i=6\/i=8\/i=14\/i=15\/i=21\/i=46\/i=57\/i=71\/i=87\/i=23\/i=22\/i=20\/i=25\/i=38\/i=43\/i=52\/i=55\/i=58\/i=78\/i=85)) (by decide+kernel) v hv.1 hv.2
  have:=of_decide_eq_true this;rw[qbn,qeI hv,if_pos (by omega),qa8]
 ·rw[qbn,qa8,qak,qep hv];rfl
theorem most_any (v:Int)(w:World)(hw:Wd w):
  Calls Tryz.prog 264 #[.int .i64 v] w fun e w'=>e= .returned (.int .i64 (qbn v))/\w=w':=by
 by_cases h:v=81\/v=6\/v=8\/v=14\/v=15\/v=21\/v=46\/v=57\/v=71\/v=87\/v=23\/v=22\/v=20\/v=25\/v=38\/v=43\/v=52\/v=55\/v=58\/v=78\/v=85
 ·clear hw
  rcases h with rfl|rfl|rfl|rfl|rfl|rfl|rfl|rfl|rfl|rfl|rfl|rfl|rfl|rfl|rfl|rfl|rfl|rfl|rfl|rfl|rfl
  all_goals
   go_enter Tryz.func264,Tryz.ntmps264;go_wp2;go_ret
   exact⟨by kernel_rfl,rfl⟩
 ·rw[most_else v h]
  have c:=qeU v w hw;generalize qa8 v=G at*;have C:=zq c;clear c hw;have h81:v≠81:=by omega
  have h6:v≠6:=by omega
  have h8:v≠8:=by omega
  have h14:v≠14:=by omega
  have h15:v≠15:=by omega
  have h21:v≠21:=by omega
  have h46:v≠46:=by omega
  have h57:v≠57:=by omega
  have h71:v≠71:=by omega
  have h87:v≠87:=by omega
  have h23:v≠23:=by omega
  have h22:v≠22:=by omega
  have h20:v≠20:=by omega
  have h25:v≠25:=by omega
  have h38:v≠38:=by omega
  have h43:v≠43:=by omega
  have h52:v≠52:=by omega
  have h55:v≠55:=by omega
  have h58:v≠58:=by omega
  have h78:v≠78:=by omega
  have h85:v≠85:=by omega
  clear h;go_enter Tryz.func264,Tryz.ntmps264;go_wp2_with fail;refine C.out.mono ?_;rintro e w' ⟨rfl,rfl⟩;go_wp2;go_ret
  exact⟨rfl,rfl⟩
end
section
open Go.RowKit
theorem ret_int {k:IntKind}{a b:Int}(h:a=b):Ending.returned (.int k a)= .returned (.int k b):=by rw[h]
theorem power_any (n R:Nat)(hn:n<=40)(hR:R=2^n)(w:World):
  Calls Tryz.prog 252 #[.int .i64 (n:Nat)] w fun e w'=>e= .returned (.int .i64 (R:Nat))/\w=w':=by
 have HR:=zq hR;clear hR;go_enter Tryz.func252,Tryz.ntmps252;go_wp2;go_loop [3,4] (fun p i=> ∃k:Nat,k<=n/\i= .int .i64 k/\p= .int .i64 ((2^k:Nat):Int)) (fun _ i=>n-(intOf i).toNat)
 case atStart=>exact⟨0,by omega,rfl,rfl⟩
 obtain⟨k,hk,rfl,rfl⟩:=hrel;obtain⟨P,hP⟩: ∃P,P=2^k:=⟨_,rfl⟩
 rw[<-hP];have hPb:P<=1099511627776:=by
  have h3:(2:Nat)^k<=2^40:=Nat.pow_le_pow_right (by omega) (by omega);omega
 have HP:=zq hP;clear hP;by_cases hlt:k<n
 ·go_wp2
  go_round
  case rel=>exact⟨k+1,by omega,by go_num,by rw[Nat.pow_succ,<-HP.out];go_num⟩
  case measure=>simp[intOf];omega
 ·go_wp2
  go_ret
  obtain rfl:k=n:=by omega
  exact⟨ret_int (by rw[HR.out,HP.out]),rfl⟩
end
namespace BitsM
def num (l:List Bool):Nat:=l.foldl (fun a b=>2*a+b.toNat) 0
theorem num_snoc (l:List Bool)(b:Bool):num (l++[b])=2*num l+b.toNat:=by simp[num,List.foldl_append]
theorem qd9 {p:List Bool->Prop}(h0:p [])(h1: ∀l b,p l->p (l++[b])): ∀l,p l:=by
 intro l;have: ∀n,∀l:List Bool,l.length=n->p l:=by
  intro n
  induction n with
  |zero=>intro l hl;have:l=[]:=List.eq_nil_of_length_eq_zero hl;subst this;exact h0
  |succ n ih=>
   intro l hl;have hne:l≠[]:=by intro e;subst e;simp at hl
   rw[<-List.dropLast_concat_getLast hne];exact h1 _ _ (ih _ (by simp;omega))
 exact this _ l rfl
theorem num_lt (l:List Bool):num l<2^l.length:=by
 refine qd9 (p:=fun l=>num l<2^l.length) (by simp[num]) (fun l b ih=>?_) l;rw[num_snoc,List.length_append,List.length_singleton,Nat.pow_succ]
 cases b<;>simp<;>omega
theorem qdP (l:List Bool): ∀j,(num l).testBit j=(decide (j<l.length) &&l.getD (l.length-1-j) false):=by
 refine qd9 (p:=fun l=> ∀j,(num l).testBit j=(decide (j<l.length) &&l.getD (l.length-1-j) false)) (by intro j;simp[num]) (fun l b ih j=>?_) l;rw[num_snoc]
 cases j with
 |zero=>
  rw[Nat.testBit_zero]
  cases b<;>simp[Nat.add_mod]
 |succ j=>
  rw[Nat.testBit_succ];have e:(2*num l+b.toNat)/2=num l:=by cases b<;>simp<;>omega
  rw[e,ih j];simp only[List.length_append,List.length_singleton];by_cases hj:j<l.length
  ·have h1:l.length+1-1-(j+1)=l.length-1-j:=by omega
   rw[h1];have h2:l.length-1-j<l.length:=by omega
   simp[hj,List.getD_eq_getElem?_getD,List.getElem?_append_left h2]
  ·simp[hj]
theorem num_eq_of {l:List Bool}{n:Nat}(hn:n<2^l.length)(h: ∀j,j<l.length->n.testBit j=l.getD (l.length-1-j) false):num l=n:=by
 apply Nat.eq_of_testBit_eq
 intro j;rw[qdP];by_cases hj:j<l.length
 ·simp[hj,h j hj]
 ·have:n.testBit j=false:=Nat.testBit_lt_two_pow (Nat.lt_of_lt_of_le hn (Nat.pow_le_pow_right (by omega) (by omega)))
  simp[hj,this]
def wbits (n w j:Nat):List Bool:=(List.range j).map fun k=>n.testBit (w-1-k)
theorem qaH (n w j:Nat):(wbits n w j).length=j:=by simp[wbits]
theorem qeJ (n w j i:Nat)(h:i<j):(wbits n w j).getD i false=n.testBit (w-1-i):=by
 simp[wbits,List.getD_eq_getElem?_getD,h]
theorem num_wbits (n w:Nat)(h:n<2^w):num (wbits n w w)=n:=by
 apply num_eq_of
 ·simpa[qaH]using h
 ·intro j hj
  rw[qaH]at hj⊢;rw[qeJ _ _ _ _ (by omega)]
  congr 1
  omega
end BitsM
section
open Go.ChangeShapes Go.WideShapes Go.ChangeAt Go.RowKit Go.Deep
def InInts (k:IntKind)(w:World)(A:Option Addr)(n:Nat)(zs:List Int):Prop:=
 zs.length=n/\n<=maxLen/\(0<n-> ∃ad:Addr,A=some ad/\ ∀i,i<n->w.cell? (ad.add i)=some (.int k (zs.getD i 0)))/\ ∀z∈zs,(Lit.int k z).wf=true
end
section
open Go.RowKit Go.ChangeAt
def u8s (l:List Nat):List Value:=l.map fun(n:Nat)=>Value.int .u8 (n:Int)
def At8 (w:World)(A:Option Addr)(xs:List Nat):Prop:=0<xs.length-> ∃ad,A=some ad/\ ∀j v,(u8s xs)[j]?=some v->w.cell? (ad.add j)=some v
def InBytes (w:World)(A:Option Addr)(n:Nat)(xs:List Nat):Prop:=xs.length=n/\n<=maxLen/\At8 w A xs/\ ∀x∈xs,x<256
theorem InInts.bytes {w:World}{A:Option Addr}{n:Nat}{zs:List Int}(h:InInts .u8 w A n zs):InBytes w A n (zs.map Int.toNat):=by
 obtain⟨hl,hm,hc,hwz⟩:=h;have hb: ∀z∈zs,0<=z/\z<=255:=fun z hz=>by have:=hwz z hz;simpa[Lit.wf,IntKind.min,IntKind.max,IntKind.signed,IntKind.bits]using this
 refine⟨by simpa using hl,hm,fun hpos=>?_,fun x hx=>?_⟩
 ·obtain⟨ad,e,hcell⟩:=hc (by simp at hpos;omega)
  refine⟨ad,e,fun j v hv=>?_⟩;have hj:j<n:=by
   have:=(List.getElem?_eq_some_iff.1 hv).1;simp[u8s]at this;omega
  have hj':j<zs.length:=by omega
  rw[hcell j hj,<-hv];have:=hb zs[j] (List.getElem_mem _);simp[u8s,List.getD_eq_getElem?_getD,hj'];omega
 ·simp only[List.mem_map]at hx
  obtain⟨z,hz,rfl⟩:=hx;have:=hb z hz;omega
end
section
open Go.RowKit
open BitsM
def bools (l:List Bool):List Value:=l.map Value.bool
theorem qeM (l:List Bool):(bools l).length=l.length:=by simp[bools]
def SlB (w:World)(A:Option Addr)(m c:Nat)(bs:List Bool):Prop:=bs.length=m/\Sl w 1 A m c (bools bs)
theorem slB_nil (w:World):SlB w none 0 0 []:=⟨rfl,qcv w 1⟩
theorem SlB.under {w w':World}{A:Option Addr}{m c:Nat}{bs:List Bool}(h:SlB w A m c bs)(hb:Below w.heap.size w w'):SlB w' A m c bs:=⟨h.1,h.2.under hb⟩
theorem SlB.grow {w w':World}{A:Option Addr}{m c:Nat}{bs:List Bool}{g:Nat}{t:TypeId}{cs:Array Value}(h:SlB w A m c bs)(hg:w.grownBy w' (some g))(hh:Has w g t cs)(hn: ∀v∈cs,∀b,v≠ .bool b):SlB w' A m c bs:=by
 refine⟨h.1,h.2.1,h.2.2.1,fun ad ha j u hu=>?_⟩;have h0:=h.2.2.2 ad ha j u hu;have hblk:=qag h0;have hne:(ad.add j).block≠g:=by
  intro e;clear hblk;generalize ad.add j=a at h0 e;obtain⟨b,off,spot⟩:=a;have e':b=g:=e;subst e';have hs:spot=none:=World.cell?_spot h0;subst hs;rw[hh.cell]at h0;have hmem:=Array.mem_of_getElem? h0;have hu':u∈bools bs:=List.mem_of_getElem? hu;simp only[bools,List.mem_map]at hu';obtain⟨b,_,rfl⟩:=hu';exact hn _ hmem b rfl
 rw[World.cell?_of_block (hg.block (ad.add j).block hblk (fun e=>hne (by injection e)))];exact h0
theorem sl_bool {w:World}{A:Option Addr}{m c:Nat}{bs:List Bool}(h:SlB w A m c bs){j:Nat}(hj:j<m): ∃b off,A=some ⟨b,off,none⟩/\w.cell? ⟨b,off+j,none⟩=some (.bool (bs.getD j false)):=by
 have hl:=h.1;have e:(bools bs)[j]?=some (.bool (bs.getD j false)):=by
  have:j<bs.length:=by omega
  simp[bools,List.getD_eq_getElem?_getD,this]
 exact h.2.at_ e
end
section
open Go.RowKit
open BitsM
theorem SlB.cut {w:World}{A:Option Addr}{m c:Nat}{bs:List Bool}(h:SlB w A m c bs)(hmc:m<=c){k:Nat}(hk:k<=m)(b off:Nat)(hA:A=some ⟨b,off,none⟩):
  SlB w (if c=k then some ⟨b,off,none⟩else some ⟨b,off+k,none⟩) (m-k) (c-k) (bs.drop k):=by
 have hl:=h.1;refine⟨by rw[List.length_drop];omega,by rw[qeM,List.length_drop];omega,fun e=>?_,fun ad ha j u hu=>?_⟩
 ·split at e<;>cases e
 ·have hu':(bools bs)[k+j]?=some u:=by
   unfold bools at hu⊢;rw[List.getElem?_map,List.getElem?_drop]at hu;rw[List.getElem?_map];exact hu
  have hj:k+j<bs.length:=by
   have:=(List.getElem?_eq_some_iff.1 hu').1
   rwa [qeM]at this
  have hck:c≠k:=by omega
  rw[if_neg hck]at ha;injection ha with ha
  subst ha;have h0:=h.2.2.2 _ hA (k+j) u hu';rw[WideShapes.add_plain]at h0⊢;rw[Nat.add_assoc];exact h0
theorem refGet_wide (A:Option Addr)(m c:Nat)(k:Int)(h:k<1\/32<k)(w:World):
  Calls Tryz.prog 216 #[.slice A m c,.int .i64 k] w fun e w'=>e= .returned (.tuple #[.int .i64 0,.slice A m c,.int .i64 1])/\w=w':=by
 by_cases h1:k<1
 ·go_enter Tryz.func216,Tryz.ntmps216
  go_wp2;go_ret3
  exact⟨rfl,rfl⟩
 ·have h2:32<k:=by omega
  clear h;go_enter Tryz.func216,Tryz.ntmps216;go_wp2;go_ret3
  exact⟨rfl,rfl⟩
theorem refGet_short (A:Option Addr)(m c:Nat)(k:Int)(h1:1<=k)(h2:k<=32)(h3:(m:Int)<k)(w:World):
  Calls Tryz.prog 216 #[.slice A m c,.int .i64 k] w fun e w'=>e= .returned (.tuple #[.int .i64 0,.slice A m c,.int .i64 10])/\w=w':=by
 have i1: ¬k<1:=by omega
 have i2: ¬32<k:=by omega
 go_enter Tryz.func216,Tryz.ntmps216;go_wp2;go_ret3
 exact⟨rfl,rfl⟩
theorem refGet_fits2 (A:Option Addr)(m c:Nat)(bs:List Bool)(k:Nat)(h1:1<=k)(h2:k<=32)(h3:k<=m)(hm:m<=1048576)(hmc:m<=c)(w:World)(hs:SlB w A m c bs):
  Calls Tryz.prog 216 #[.slice A m c,.int .i64 k] w fun e w'=>
   ∃A',e= .returned (.tuple #[.int .i64 (num (bs.take k):Nat),.slice A' (m-k) (c-k),.int .i64 0])/\SlB w' A' (m-k) (c-k) (bs.drop k)/\(∃nd,w'=w.drewN nd)/\ ∀a',A'=some a'-> ∃a,A=some a/\a'.block=a.block:=by
 obtain⟨b,off,rfl,_⟩:=sl_bool hs (j:=0) (by omega);have i1: ¬(k:Int)<1:=by omega
 have i2: ¬32<(k:Int):=by omega
 have i3: ¬(m:Int)<k:=by omega
 have HC:=zq (hs.cut hmc h3 b off rfl);have HS:=zq hs;clear hs;go_enter Tryz.func216,Tryz.ntmps216;go_wp2;go_loop [7,8] (fun n i=> ∃j:Nat,j<=k/\i= .int .i64 (j:Nat)/\n= .int .i64 (num (bs.take j):Nat)) (fun _ i=>k-(intOf i).toNat)
 case atStart=>exact⟨0,by omega,rfl,rfl⟩
 obtain⟨j,hj,rfl,rfl⟩:=hrel;obtain⟨N,hN⟩: ∃N,N=num (bs.take j):=⟨_,rfl⟩
 have hNb:N<4294967296:=by
  have h:=num_lt (bs.take j);have h4:(bs.take j).length<=32:=by rw[List.length_take];omega
  have h5:(2:Nat)^(bs.take j).length<=2^32:=Nat.pow_le_pow_right (by omega) h4;omega
 rw[<-hN];have HN:=zq hN;clear hN;by_cases hlt:j<k
 ·obtain⟨b',off',e',hc⟩:=sl_bool HS.out (j:=j) (by omega)
  simp only[Option.some.injEq,Addr.mk.injEq,and_true]at e';obtain⟨rfl,rfl⟩:=e';have hsucc:num (bs.take (j+1))=2*N+(bs.getD j false).toNat:=by
   have hjl:j<bs.length:=by have:=HS.out.1;omega
   rw[List.take_succ_eq_append_getElem hjl,num_snoc,HN.out,List.getD_eq_getElem?_getD,List.getElem?_eq_getElem hjl]
   rfl
  obtain⟨T,hT⟩: ∃T,T=bs.getD j false:=⟨_,rfl⟩
  rw[<-hT]at hc hsucc;have HU:=zq hsucc;clear hsucc hT
  cases T
  all_goals
   go_wp2;go_round
   case rel=>exact⟨j+1,by omega,by go_num,by rw[HU.out];go_num⟩
   case measure=>simp[intOf];omega
 ·obtain rfl:j=k:=by omega
  have i4:(j:Int)<=m:=by omega
  have i5:(m:Int)<=c:=by omega
  go_wp2_with fail;go_quiet (fail);have HC':=HC.out;clear HC;have hblk: ∀a',(if c=j then some (⟨b,off,none⟩:Addr)else some ⟨b,off+j,none⟩)=some a'-> ∃a,some (⟨b,off,none⟩:Addr)=some a/\a'.block=a.block:=by
   intro a' ha';refine⟨_,rfl,?_⟩;split at ha'<;>(injection ha' with ha';rw[<-ha'])
  generalize (if c=j then some (⟨b,off,none⟩:Addr)else some ⟨b,off+j,none⟩)=A' at HC' hblk⊢;have HBK:=zq hblk;clear hblk;have HC:=zq HC';clear HC';go_wp2;go_ret3
  exact⟨A',by rw[HN.out];rfl,HC.out,⟨nq,rfl⟩,HBK.out⟩
end
section
open Go.RowKit
theorem cut_from {P:Program}(t e:TypeId)(h:P.underlying t=some (.slice e))(_he:P.elem t=e)(hs:(P.info? e).map (·.size)=some 1)(A:Option Addr)(n c p:Nat)(hp:p<=n)(w:World):
  (Instr.sliceAt t (.slice A n c) (some (.int .i64 (p:Nat))) none none).run P w= .ok (.slice (if c=p then A else A.map (·.add (p*1))) (n-p) (c-p)) w:=by
 have e1:(sizeOf e).run P w= .ok 1 w:=by
  cases hi:P.info? e with
  |none=>rw[hi]at hs;cases hs
  |some i=>
   rw[hi]at hs;simp only[Option.map_some,Option.some.injEq]at hs;simp[sizeOf,run_typeInfo _ hi,hs]
 have h0:(0:Int)<=(p:Nat):=by omega
 have h1:((p:Nat):Int)<=(n:Nat):=by omega
 simp[Instr.sliceAt,Instr.slice,run_underlying h,Instr.sliceBounds,run_sliceBound,h0,h1,e1]
theorem Sl.from_ {w:World}{A:Option Addr}{n c:Nat}{vs:List Value}(h:Sl w 1 A n c vs)(hc:n<=c){p:Nat}(hp:p<=n):Sl w 1 (if c=p then A else A.map (·.add (p*1))) (n-p) (c-p) (vs.drop p):=by
 have hl:vs.length=n:=by have:=h.1;omega
 refine⟨by rw[List.length_drop];omega,fun e=>?_,fun ad ha j u hu=>?_⟩
 ·cases A with
  |none=>have:=h.2.1 rfl;omega
  |some a=>
   rw[Option.map_some]at e;split at e<;>cases e
 ·have hj:j<n-p:=by
   have:=(List.getElem?_eq_some_iff.1 hu).1;rw[List.length_drop]at this;omega
  rw[List.getElem?_drop]at hu;rw[if_neg (by omega)]at ha
  cases A with
  |none=>cases ha
  |some a=>
   rw[Option.map_some]at ha;injection ha with ha
   subst ha;have h0:=h.2.2 a rfl (p+j) u hu;have e:(a.add (p*1)).add j=a.add (p+j):=by
    unfold Addr.add;by_cases h1:p=0
    ·subst h1;simp
    ·by_cases h2:j=0
     ·subst h2;simp[h1]
     ·simp[h1,h2,Nat.add_assoc]
   rw[e];exact h0
theorem Sl.to_ {w:World}{A:Option Addr}{n c:Nat}{vs:List Value}(h:Sl w 1 A n c vs){p:Nat}(hp:p<=n):Sl w 1 (if c=0 then A else A.map (·.add (0*1))) p c (vs.take p):=by
 have hl:vs.length=n:=by have:=h.1;omega
 refine⟨by rw[List.length_take];omega,fun e=>?_,fun ad ha j u hu=>?_⟩
 ·cases A with
  |none=>have:=h.2.1 rfl;omega
  |some a=>
   rw[Option.map_some]at e;split at e<;>cases e
 ·have hj:j<p:=by
   have:=(List.getElem?_eq_some_iff.1 hu).1;rw[List.length_take]at this;omega
  rw[List.getElem?_take_of_lt hj]at hu
  cases A with
  |none=>split at ha<;>cases ha
  |some a=>
   rw[Option.map_some]at ha;have e:(a.add (0*1))=a:=by unfold Addr.add;simp
   rw[e]at ha;have ha':ad=a:=by split at ha<;>(injection ha with ha;exact ha.symm)
   subst ha';exact h.2.2 ad rfl j u hu
theorem qew {A:Option Addr}{c p:Nat}: ∀a',(if c=p then A else A.map (·.add (p*1)))=some a'-> ∃a,A=some a/\a'.block=a.block:=by
 intro a' h
 cases A with
 |none=>split at h<;>cases h
 |some a=>
  refine⟨a,rfl,?_⟩;rw[Option.map_some]at h;split at h<;>(injection h with h;rw[<-h])
  unfold Addr.add;split<;>rfl
end
end Go.Proofs.YtahadmeilajdgaaGreatDoor
