/-
  Our own text, joined.
-/
import Derived.Test.YtahadmeilajdgaaGreatDoorMaab
import Derived.Test.YtahadmeilajdgaaGreatDoorMaac
import Derived.BigQuiet
import Derived.IntWalk
import Derived.Test.YtahadmeilajdgaaGreatDoorMaaa
import Derived.Test.YtahadmeilajdgaaGreatDoorRows
import Derived.KernelRfl
import Derived.Deep.DeepCutAuto
import Derived.StillTailTactics
import Derived.Below
import Derived.WalkKit
import Derived.ProofKit
import Derived.OpenShut
import Derived.Deep.Slices
import Derived.Lib.SmallJoins
import Derived.Laws.CopyOwn
import Derived.Deep.OwnRows
import Derived.Laws.BytesArg
import Derived.Lib.ConvBytes
import Derived.WalkSpells
import Derived.WalkLawsBesides
import Derived.Laws.BitsAllLaws
import Derived.Lib.Hide
import Derived.Deep.QuietTactic
import Derived.Deep.RegionLaw
import Derived.ChangeKeysEq
import Derived.Lib.AppendZerosOnto
import Derived.Lib.SliceRun
import Derived.Deep.LoopGhost
import Derived.Test.YtahadmeilajdgaaGreatDoorCards
import Derived.Test.YtahadmeilajdgaaGreatDoorTie
import Derived.Deep.DeepHandedRow
import Derived.Lib.LaidTab
namespace Go.Proofs.YtahadmeilajdgaaGreatDoor
set_option maxRecDepth 100000
set_option maxHeartbeats 20000000
section
open Go.RowKit
open Go.Great
def splL (X:List Value)(o:Nat)(cs:List Value):List Value:=X.take o++cs++X.drop (o+cs.length)
theorem splL_len (X:List Value)(o:Nat)(cs:List Value)(h:o+cs.length<=X.length):(splL X o cs).length=X.length:=by
 unfold splL;simp;omega
theorem splL_take (X:List Value)(o:Nat)(cs:List Value)(h:o<=X.length):(splL X o cs).take o=X.take o:=by
 unfold splL;rw[List.append_assoc,List.take_append_of_le_length (by simp;omega),List.take_take,Nat.min_self]
theorem run_clear_rowL {P:Program}(w:World)(t e ty:TypeId)(z:Value)(ht:P.underlying t=some (.slice e))(hv: ∀w,(zeroValue e).run P w= .ok z w)(h1: ∀v∈z.cells.toList,v.oneCell'=true)(g o n c:Nat)(cur:Array Value)
  (hg:Has w g e cur) (hfit:o+n*z.cells.size<=cur.size) (h0:0<n):
  (Builtin.clear_ #[t] ty #[.slice (some ⟨g,o,none⟩) n c]).run P w= .ok (.tuple #[]) (w.setRow g (splL cur.toList o (Builtin.zeroCells z.cells n).toList).toArray):=by
 have hst:=run_storeCells_at P g o e (Builtin.zeroCells z.cells n).toList 0 cur w hg (by simpa[Builtin.zeroCells]using hfit) (fun v hv'=>by
  obtain⟨i,hi,rfl⟩:=List.getElem_of_mem hv';simp[Builtin.zeroCells]at hi⊢;exact h1 _ (by
   have hp:0<z.cells.size:=by
    rcases Nat.eq_zero_or_pos z.cells.size with h|h
    ·rw[h]at hi;simp at hi
    ·exact h
   rw[getElem!_pos z.cells _ (Nat.mod_lt _ hp)];simp))
 obtain⟨m,rfl⟩: ∃m,n=m+1:=⟨n-1,by omega⟩
 simp only[Nat.add_zero]at hst;simp[Builtin.clear_,run_underlying ht,hv,hst,splL]
theorem flat_parts16 {l:List Lc3}{i:Nat}(h:i<=l.length):(l.take i).flatMap lcC=(l.flatMap lcC).take (i*3)/\(l.drop i).flatMap lcC=(l.flatMap lcC).drop (i*3):=by
 have h1:l.flatMap lcC=(l.take i).flatMap lcC++(l.drop i).flatMap lcC:=by rw[<-List.flatMap_append,List.take_append_drop]
 have h2:((l.take i).flatMap lcC).length=i*3:=by rw[flat_len (f:=lcC) (k:=3) (fun _=>rfl),List.length_take,Nat.min_eq_left h]
 rw[h1];exact⟨(List.take_left' h2).symm,(List.drop_left' h2).symm⟩
theorem owl_has16 {base g n c:Nat}{w:World}{cur:Array Value}{l:List Lc3}(hb:base<=g)(hg:Has w g 73 cur)(hnc:n<=c)(hcm:c<=maxLen)(hcs:cur.size=c*3)(hl:l.length=n)(ht:cur.toList.take (n*3)=l.flatMap lcC):OwR lcC 3 73 base w (some ⟨g,0,none⟩) n c l:=by
 refine⟨⟨?_,.inr ⟨g,c,cur,rfl,hb,hg,hnc,hcm,hcs,ht⟩⟩,hl⟩;rw[flat_len (f:=lcC) (k:=3) (fun _=>rfl),hl]
theorem owl_take16 {base n c i:Nat}{w:World}{A:Option Addr}{l:List Lc3}(h:OwR lcC 3 73 base w A n c l)(hi:i<=n):OwR lcC 3 73 base w A i c (l.take i):=by
 cases A with
 |none=>
  obtain⟨e,_⟩:=h.sl.2.2.1 rfl;subst e;obtain rfl:i=0:=by omega
  rcases h.1.2 with⟨h1,_⟩|⟨g,cap,cur,h1,_⟩
  ·injection h1 with _ _ h1
   subst h1;exact OwR.nil _ _ _ _ _
  ·cases h1
 |some ad=>
  obtain⟨g,cur,rfl,hb,hg,hnc,hcm,hcs,ht⟩:=h.has;refine owl_has16 hb hg (by omega) hcm hcs (by rw[List.length_take,h.2];omega) ?_;rw[(flat_parts16 (by rw[h.2];exact hi)).1,<-ht,List.take_take,Nat.min_eq_left (by omega)]
/-! What DeleteFunc has made of a list when it has come to j and kept i. -/
structure DelP16 (p:Lc3->Bool) (l L:List Lc3) (i j:Nat):Prop where
 len:L.length=l.length
 le:i<j
 head:L.take i=(l.take j).filter fun k=>!p k
 rest:L.drop j=l.drop j
theorem del_start16 {p:Lc3->Bool}{l:List Lc3}{i:Nat}{x:Lc3}(hx:l[i]?=some x)(hp:p x=true)(hno: ∀(k:Nat) (y:Lc3),k<i->l[k]?=some y->p y=false):DelP16 p l l i (i+1):=by
 refine⟨rfl,Nat.lt_succ_self _,?_,rfl⟩;rw[List.take_add_one,hx,List.filter_append];have h1:(l.take i).filter (fun k=>!p k)=l.take i:=by
  rw[List.filter_eq_self];intro y hy;obtain⟨k,hk,rfl⟩:=List.getElem_of_mem hy;rw[List.length_take]at hk;rw[List.getElem_take,hno k _ (by omega) (List.getElem?_eq_getElem (by omega))]
  rfl
 rw[h1];show _=_++List.filter _ [x]
 rw[List.filter_cons,hp];simp
theorem del_at16 {p:Lc3->Bool}{l L:List Lc3}{i j:Nat}(h:DelP16 p l L i j){x:Lc3}(hx:l[j]?=some x):L[j]?=some x:=by
 have h1:(L.drop j)[0]?=(l.drop j)[0]?:=by rw[h.rest]
 rw[List.getElem?_drop,List.getElem?_drop]at h1;rw[<-hx]
 simpa using h1
theorem del_drop16 {p:Lc3->Bool}{l L:List Lc3}{i j:Nat}(h:DelP16 p l L i j){x:Lc3}(hx:l[j]?=some x)(hp:p x=true):DelP16 p l L i (j+1):=by
 refine⟨h.len,by have:=h.le;omega,?_,?_⟩
 ·rw[h.head,List.take_add_one,hx,List.filter_append]
  show _=_++List.filter _ [x]
  rw[List.filter_cons,hp];simp
 ·have h1:=congrArg (List.drop 1) h.rest
  rw[List.drop_drop,List.drop_drop]at h1;exact h1
theorem del_keep16 {p:Lc3->Bool}{l L:List Lc3}{i j:Nat}(h:DelP16 p l L i j){x:Lc3}(hx:l[j]?=some x)(hp:p x=false):DelP16 p l (L.set i x) (i+1) (j+1):=by
 have hj:=(List.getElem?_eq_some_iff.1 hx).1;have hi:=h.le;refine⟨by rw[List.length_set,h.len],by omega,?_,?_⟩
 ·rw[List.take_add_one,List.take_set_of_le (Nat.le_refl _),h.head,List.take_add_one,hx,List.filter_append]
  congr 1
  rw[List.getElem?_set_self (by rw[h.len];omega)];show _=List.filter _ [x]
  rw[List.filter_cons,hp]
  rfl
 ·rw[List.drop_set_of_lt (by omega)]
  have h1:=congrArg (List.drop 1) h.rest;rw[List.drop_drop,List.drop_drop]at h1;exact h1
theorem del_end16 {p:Lc3->Bool}{l L:List Lc3}{i:Nat}(h:DelP16 p l L i l.length):L.take i=l.filter fun k=>!p k:=by
 rw[h.head,List.take_of_length_le (Nat.le_refl _)]
theorem flat_set16 {l:List Lc3}{i:Nat}{x:Lc3}(hi:i<l.length):(l.set i x).flatMap lcC=splL (l.flatMap lcC) (i*3) (lcC x):=by
 unfold splL;have h1:=(flat_parts16 (l:=l) (i:=i) (by omega)).1;have h3:=(flat_parts16 (l:=l) (i:=i+1) (by omega)).2;rw[show(i+1)*3=i*3+3 by omega]at h3;rw[List.set_eq_take_append_cons_drop,if_pos hi,List.flatMap_append,List.flatMap_cons,h1,h3];simp[lcC]
theorem spl316 {X:List Value}{o:Nat}{a b c:Value}(h:o+3<=X.length):((X.set o a).set (o+1) b).set (o+2) c=splL X o [a,b,c]:=by
 apply List.ext_getElem?
 intro k;unfold splL;by_cases h1:k<o
 ·rw[List.getElem?_set_ne (by omega),List.getElem?_set_ne (by omega),List.getElem?_set_ne (by omega),List.getElem?_append_left (by simp;omega),List.getElem?_append_left (by simp;omega),List.getElem?_take,if_pos h1]
 ·by_cases h2:k<o+3
  ·rw[List.getElem?_append_left (by simp;omega),List.getElem?_append_right (by simp;omega)]
   rw[List.length_take,Nat.min_eq_left (by omega)]
   rcases(by omega:k=o\/k=o+1\/k=o+2)with rfl|rfl|rfl
   ·rw[List.getElem?_set_ne (by omega),List.getElem?_set_ne (by omega),List.getElem?_set_self (by omega)]
    simp
   ·rw[List.getElem?_set_ne (by omega),List.getElem?_set_self (by simp;omega),show o+1-o=1 by omega]
    rfl
   ·rw[List.getElem?_set_self (by simp;omega),show o+2-o=2 by omega]
    rfl
  ·rw[List.getElem?_set_ne (by omega),List.getElem?_set_ne (by omega),List.getElem?_set_ne (by omega),List.getElem?_append_right (by simp;omega)]
   rw[List.length_append,List.length_take,Nat.min_eq_left (by omega),List.getElem?_drop]
   congr 1
   simp;omega
theorem olco_any (x:Lc3)(d:Int)(g:Nat)(w:World)(hc:w.cell? ⟨g,0,none⟩=some (.int .i64 d)):
  Calls Tryz.prog 106 #[.agg (lcA x),.pointer (some ⟨g,0,none⟩)] w fun e w'=>e= .returned (.bool (!(x.train==d)))/\Below w.heap.size w w':=by
 obtain⟨wa,hwa,hbwa,HWA,HBWA,h0⟩:=bx1Z w 73 (lcA x);have c0:wa.cell? ⟨w.heap.size,1,none⟩=some (.int .i64 x.train):=h0.cell 1;have e0:wa.cell? ⟨g,0,none⟩=some (.int .i64 d):=(hbwa.cell (cell_block hc)).trans hc;clear hwa hbwa h0 hc;obtain⟨q,hq⟩:=geZ ((x.train==d));have z1:(x.train !=d)=!q:=by rw[<-hq];rfl
 rw[hq];unfold lcA at*;go_enter Tryz.func106,Tryz.ntmps106;go_upto_region 1 with fail;rw[HWA.out];clear HWA;go_wp2;go_ret
 exact⟨by first|rfl|(rw[hq];done)|simp_all,HBWA.out⟩
theorem oclonel_any (A:Option Addr)(n c:Nat)(l:List Lc3)(w:World)(hs:SlO lcC 3 w A n c l)(hn:n<=1000):
  Calls Tryz.prog 180 #[.slice A n c] w fun e w'=> ∃A' c',e= .returned (.slice A' n c')/\OwR lcC 3 73 w.heap.size w' A' n c' l/\Below w.heap.size w w':=by
 obtain⟨HLN,hs⟩:=hs;have H1:Hid (∀u∈l.flatMap lcC,u.oneCell'=true):=zq fun u hu=>by
  obtain⟨x,_,h⟩:=List.mem_flatMap.1 hu;exact one_lc16 x u h
 have HLN:=zq HLN;obtain⟨vs,hvs⟩:=geZ (l.flatMap lcC);have HVS:=zq hvs;rw[hvs]at hs H1;clear hvs;have HFIN:Hid (∀A' c' W,W.ownsRow w.heap.size 73 3 (.slice A' n c') n vs->OwR lcC 3 73 w.heap.size W A' n c' l):=zq fun A' c' W h=>⟨by rw[HVS.out];exact h,HLN.out⟩
 clear HVS HLN
 cases hA:A with
 |none=>
  subst hA;obtain⟨rfl,rfl⟩:=hs.2.1 rfl;have e0:vs=[]:=List.eq_nil_of_length_eq_zero (by simpa using hs.1);subst e0;have HO0:Hid (w.ownsRow w.heap.size 73 3 (.slice none 0 0) 0 []):=zq (World.ownsRow_nil w w.heap.size 73 3);have q1:=fun w:World=>Lib.run_eql_slice_nil (P:=Tryz.prog) w 28 73 none 0 0 0 0 Tryz.underlying28;simp only[Option.isNone]at q1;clear hs;go_enter Tryz.func180,Tryz.ntmps180;go_wp2;go_ret
  exact⟨none,0,rfl,HFIN.out _ _ _ HO0.out,Below.refl _ _⟩
 |some ad=>
  subst hA;have HSL:=zq (hs.beside (.cells #[] 73));have HO:=zq (World.ownsRow_lit (base:=w.heap.size) (e:=73) (size:=3) w #[] 0 (Nat.le_refl _) (by unfold maxLen;omega) rfl);have HB:Hid (0+n<=maxLen/\(0+n)*24<=140737488355328/\w.heap.size<=(w.alloc (.cells #[] 73)).heap.size):=zq ⟨by unfold maxLen;omega,by omega,by simp⟩;have HBL:Hid (Below w.heap.size w (w.alloc (.cells #[] 73))):=zq (bA);have q1:=fun w:World=>Lib.run_eql_slice_nil (P:=Tryz.prog) w 28 73 (some ad) n c 0 0 Tryz.underlying28;simp only[Option.isNone]at q1;clear hs;go_enter Tryz.func180,Tryz.ntmps180;go_wp2_with (with_reducible refine wpList_pour (o:=⟨some 7,_,_,_,_,_⟩) rfl (.tmp 5) (.tmp 6) 28 rfl w.heap.size 73 (.agg #[.int .i64 0,.int .i64 0,.int .i64 0]) 3 24 Tryz.underlying28 info_lock16 ?hz (by decide) (some ⟨w.heap.size,0,none⟩) 0 0 [] ?hs HO (some ad) n c vs ?hx HSL H1 HB ?next)
  all_goals try rfl
  intro A4 c4 w4 ho4 hg4;have HO4:Hid (w4.ownsRow w.heap.size 73 3 (.slice A4 n c4) n vs):=zq (by simpa using ho4.out);clear ho4;go_wp2;go_ret
  exact⟨A4,c4,rfl,HFIN.out _ _ _ HO4.out,below_own HBL.out HB.out.2.2 HO.out (Nat.le_refl _) rfl hg4.out⟩
theorem oix_lo (p:Lc3->Bool)(l:List Lc3)(A:Option Addr)(n c:Nat)(g:Nat)(w:World)(hs:SlO lcC 3 w A n c l)(hbig:n<=1048576)
  (HE:Hid (∀(x:Lc3) W,Below w.heap.size w W->Calls Tryz.prog 106 #[.agg (lcA x),.pointer (some ⟨g,0,none⟩)] W fun e w'=>e= .returned (.bool (p x))/\Below W.heap.size W w')):
  Calls Tryz.prog 43 #[.slice A n c,.func (.func 106) #[] #[.pointer (some ⟨g,0,none⟩)]] w fun e w'=>e= .returned (.int .i64 (idxL p l))/\Below w.heap.size w w':=by
 try unfold lcA at HE
 have HN:Hid (l.length=n):=zq hs.len13;have HW:=zq hs;clear hs;have x0:(0:Int)<=n:=by omega
 obtain⟨R,hR⟩:=geZ (idxL p l);have HR:=zq hR;rw[hR];clear hR;go_enter Tryz.func43,Tryz.ntmps43;go_wp2;go_loopg [8] n (fun kk v wl=> ∃j:Nat,j<=n/\n-j<=kk/\v= .int .i64 j/\Hid (∀i x,i<j->l[i]?=some x->p x=false)/\Hid (Below w.heap.size w wl))
 case atStart=>exact⟨0,by omega,by omega,rfl,zq fun i x h=>absurd h (by omega),zq (Below.refl _ _)⟩
 obtain⟨j,hj,hjk,rfl,HNO,HBL⟩:=hrel;by_cases hlt:j<n
 ·obtain⟨x,hx⟩:=glZ l (j) (by rw[HN.out];omega)
  obtain⟨bk,off,rfl,d0,d1,d2⟩:=(HW.out.under HBL.out).lock hx;have HX:=zq hx;have y0:(0:Int)<=j:=by omega
  have y1:(j:Int)<n:=by omega
  have HC:=zq (HE.out x wr HBL.out);clear hx;generalize hb:p x=b at*;have HBE:=zq hb;clear hb
  cases b with
  |true=>
   have HF:Hid (R=j):=zq (by rw[<-HR.out];exact idx_hit HX.out HBE.out HNO.out);go_upto_region 4 with fail;go_wp2_with fail;refine HC.out.mono ?_;rintro e w1 ⟨rfl,hb1⟩;have HB1:=tB HBL hb1;clear hb1 d0 d1 d2 HBE HNO;go_wp2;go_ret
   exact⟨by rw[HF.out];rfl,HB1.out⟩
  |false=>
   go_upto_region 4 with fail;go_wp2_with fail;refine HC.out.mono ?_;rintro e w1 ⟨rfl,hb1⟩;have HB1:=tB HBL hb1;have HN2:Hid (∀i y,i<j+1->l[i]?=some y->p y=false):=zq fun i y hi hy=>by
    by_cases h:i=j
    ·subst h;rw[HX.out]at hy;cases hy;exact HBE.out
    ·exact HNO.out i y (by omega) hy
   clear hb1 d0 d1 d2 HBE HNO;go_wp2;go_roundg (gk-1)
   case measure=>omega
   case rel=>exact⟨j+1,by omega,by omega,by go_num,HN2,HB1⟩
 ·have y1: ¬(j:Int)<n:=by omega
  have HF:Hid (R= -1):=zq (by rw[<-HR.out];exact idx_miss fun i y hi hy=>HNO.out i y (by have:=HN.out;omega) hy);go_wp2;go_ret
  exact⟨by rw[HF.out];rfl,HBL.out⟩
theorem zero_lock16: ∀w,(zeroValue 73).run Tryz.prog w= .ok (.agg #[.int .i64 0,.int .i64 0,.int .i64 0]) w:=fun w=>by
 obtain⟨i,hi,hz,_,_⟩:=info_parts (P:=Tryz.prog) info_lock16;simp[zeroValue,typeInfo,hi,hz]
theorem owl_store16 {base b n c i:Nat}{w:World}{L:List Lc3}(h:OwR lcC 3 73 base w (some ⟨b,0,none⟩) n c L)(hi:i<n)(x:Lc3):OwR lcC 3 73 base (w.setCells b (i*3) (lcC x)) (some ⟨b,0,none⟩) n c (L.set i x)/\Below base w (w.setCells b (i*3) (lcC x))/\w.there b (i*3) 3:=by
 obtain⟨g,cur,e,hb,hg,hnc,hcm,hcs,ht⟩:=h.has;injection e with e _ _
 subst e;have hl:=h.2;have hlen:(L.flatMap lcC).length=n*3:=by rw[flat_len (f:=lcC) (k:=3) (fun _=>rfl),hl]
 refine⟨?_,?_,fun j hj=>⟨?_,hg.thaw _⟩⟩
 ·refine owl_has16 hb (((hg.stored (i*3) (.int .i64 x.route)).stored (i*3+1) (.int .i64 x.train)).stored (i*3+2) (.int .i64 x.no)) hnc hcm (by simpa using hcs) (by rw[List.length_set,hl]) ?_
  rw[Array.toList_setIfInBounds,Array.toList_setIfInBounds,Array.toList_setIfInBounds,List.take_set,List.take_set,List.take_set,ht,spl316 (by rw[hlen];omega),flat_set16 (by rw[hl];exact hi)]
  rfl
 ·exact(((Below.refl _ _).setCell (p:=⟨b,i*3,none⟩) hb _).setCell (p:=⟨b,i*3+1,none⟩) hb _).setCell (p:=⟨b,i*3+2,none⟩) hb _
 ·rw[hg.cell,Array.getElem?_eq_getElem (by rw[hcs];omega)]
  rfl
theorem owl_clear16 {base b n c i:Nat}{w:World}{L:List Lc3}(h:OwR lcC 3 73 base w (some ⟨b,0,none⟩) n c L)(hi:i<n):
  ∃W,(∀ty dc,(Builtin.clear_ #[28] ty #[.slice (some ⟨b,i*3,none⟩) (n-i) dc]).run Tryz.prog w= .ok (.tuple #[]) W)/\OwR lcC 3 73 base W (some ⟨b,0,none⟩) i c (L.take i)/\Below base w W:=by
 obtain⟨g,cur,e,hb,hg,hnc,hcm,hcs,ht⟩:=h.has;injection e with e _ _
 subst e;have hl:=h.2;have hZ:(Builtin.zeroCells (Value.agg #[.int .i64 0,.int .i64 0,.int .i64 0]).cells (n-i)).toList.length=(n-i)*3:=by simp[Builtin.zeroCells,Value.cells]
 have hcl:cur.toList.length=c*3:=by rw[Array.length_toList,hcs]
 refine⟨w.setRow b (splL cur.toList (i*3) (Builtin.zeroCells (Value.agg #[.int .i64 0,.int .i64 0,.int .i64 0]).cells (n-i)).toList).toArray,fun ty dc=>?_,?_,below_row (Below.refl _ _) hb _⟩
 ·refine run_clear_rowL w 28 73 ty _ Tryz.underlying28 zero_lock16 (by intro v hv;simp[Value.cells]at hv;subst hv;rfl) b (i*3) (n-i) dc cur hg ?_ (by omega)
  show i*3+(n-i)*3<=cur.size
  rw[hcs];omega
 ·have h1:OwR lcC 3 73 base w (some ⟨b,0,none⟩) i c (L.take i):=owl_take16 h (by omega)
  refine owl_has16 hb (has_row11 hg _) (by omega) hcm (by rw[List.size_toArray,splL_len _ _ _ (by rw[hZ,hcl];omega),hcl]) (by rw[List.length_take,hl];omega) ?_;rw[List.toList_toArray,splL_take _ _ _ (by rw[hcl];omega)];rw[(flat_parts16 (by rw[hl];omega)).1,<-ht,List.take_take,Nat.min_eq_left (by omega)]
theorem odf_lo (p:Lc3->Bool)(l:List Lc3)(A:Option Addr)(n c base:Nat)(g:Nat)(w:World)(hs:OwR lcC 3 73 base w A n c l)(hbig:n<=1000)(hbase:base<=w.heap.size)
  (HE:Hid (∀(x:Lc3) W,Below base w W->Calls Tryz.prog 106 #[.agg (lcA x),.pointer (some ⟨g,0,none⟩)] W fun e w'=>e= .returned (.bool (p x))/\Below W.heap.size W w')):
  Calls Tryz.prog 179 #[.slice A n c,.func (.func 106) #[] #[.pointer (some ⟨g,0,none⟩)]] w fun e w'=> ∃k,e= .returned (.slice A k c)/\OwR lcC 3 73 base w' A k c (l.filter fun k=>!p k)/\Below base w w':=by
 have HIX:=zq (oix_lo p l A n c g w hs.sl (by omega) (zq fun x W hW=>HE.out x W (hW.mono hbase)));have HLN:=zq hs.2;have HS:=zq hs;have HBS:=zq hbase
 rcases idxA_spec p l 0 with⟨h1,h2⟩|⟨i,x,h1,h2,h3,h4⟩
 ·have HF:Hid (l.filter (fun k=>!p k)=l):=zq (by
   rw[List.filter_eq_self];intro y hy;obtain⟨k,hk,rfl⟩:=List.getElem_of_mem hy;rw[h2 k _ (List.getElem?_eq_getElem hk)]
   rfl)
  rw[show idxL p l= -1 from h1]at HIX;clear h1 h2 hs hbase HE;go_enter Tryz.func179,Tryz.ntmps179;go_wp2_with fail;refine HIX.out.mono ?_;rintro e w1 ⟨rfl,hb1⟩;have HO1:=zq (HS.out.under hb1);have HB1:=zq (hb1.mono HBS.out);clear hb1 HIX HS;go_wp2;go_ret
  exact⟨n,rfl,by rw[HF.out];exact HO1.out,HB1.out⟩
 ·have hin:i<n:=by have h_:=(List.getElem?_eq_some_iff.1 h1).1;have:=HLN.out;omega
  have HD0:=zq (del_start16 h1 h2 h3);have e0:idxL p l=(i:Int):=by unfold idxL;rw[h4];congr 1;omega
  rw[e0]at HIX;obtain⟨b,rfl,hbb,_⟩:=hs.some (by omega);have HCN:=zq hs.cap;have HBB:=zq hbb;have x0:(0:Int)<=i:=by omega
  have x1:(i:Int)<n:=by omega
  have x2:(n:Int)<=1000:=by omega
  have x3: ¬((i:Int)= -1):=by omega
  have HNB:=zq (show i+1<=n/\n<=1000 from⟨hin,hbig⟩);clear h1 h2 h3 h4 e0 hs hbase hin hbb hbig;go_enter Tryz.func179,Tryz.ntmps179;go_wp2_with fail;refine HIX.out.mono ?_;rintro e w1 ⟨rfl,hb1⟩;have HO1:=zq (HS.out.under hb1);have HB1:=zq (hb1.mono HBS.out);clear hb1 HIX HS;go_upto_region 5 with fail;clear x0 x1 x2 x3;go_loopg [5,6] n (fun kk v5 v6 wl=> ∃(i j:Nat) (L:List Lc3),j<=n/\n-j<=kk/\v5= .int .i64 i/\v6= .int .i64 j/\Hid (DelP16 p l L i j)/\Hid (OwR lcC 3 73 base wl (some ⟨b,0,none⟩) n c L)/\Hid (Below base w wl))
  case atStart=>exact⟨i,i+1,l,HNB.out.1,by omega,rfl,by first|rfl|(rw[IntWalk.wrap64_in _ (by have:=HNB.out;omega)];go_num)|go_num,HD0,HO1,HB1⟩
  clear HO1 HB1 HD0;obtain⟨i,j,L,hj,hjk,rfl,rfl,HD,HO,HB⟩:=hrel;obtain⟨k1,hk1⟩: ∃k1,k1=gk:=⟨_,rfl⟩
  subst hk1;obtain⟨wv,hwv⟩: ∃wv,wv=wr:=⟨_,rfl⟩
  subst hwv;by_cases hlt:j<n;rotate_left
  ·obtain rfl:j=n:=by omega
   have hdi:=HD.out.le;obtain⟨W,hcl,hoW,hbW⟩:=owl_clear16 HO.out hdi;have HF:Hid (L.take i=l.filter fun k=>!p k):=zq (by have h_:=HLN.out;have h2_:=HD.out;rw[<-h_]at h2_;exact del_end16 h2_);have HOW:=zq hoW;have HBW:=zq (HB.out.trans hbW);have y0:(0:Int)<=i:=by omega
   have y1:(i:Int)<=j:=by omega
   have y2:i<=j:=by omega
   have y3:j<=c:=HCN.out;have y4: ¬c=i:=by omega
   have y5:(j:Int)<=c:=by omega
   have y6:i<=c:=by omega
   have y7:(i:Int)<=c:=by omega
   have y8: ¬(j:Int)<j:=by omega
   clear hoW hbW hjk hlt hj hdi HD HO HB;go_wp2;go_ret
   exact⟨i,rfl,by rw[<-HF.out];exact HOW.out,HBW.out⟩
  obtain⟨x,hx⟩:=glZ l (j) (by rw[HLN.out];exact hlt);have HX:=zq hx;obtain⟨bk,off,e_,d0,d1,d2⟩:=HO.out.sl.lock (del_at16 HD.out hx);injection e_ with e_
  injection e_ with e1_ e2_ _
  subst e1_ e2_;rw[Nat.zero_add]at d0 d1 d2;have HIN:=zq (show j<n/\n-j<=k1 from⟨hlt,hjk⟩);have HDI:=zq (show i<n from by have:=HD.out.le;omega);have y0:(0:Int)<=j:=by omega
  have y1:(j:Int)<n:=by omega
  clear hx hjk hlt hj;obtain⟨kr,kt,kn⟩:=x;dsimp only at d0 d1 d2;go_upto_region 8 with fail;obtain⟨wb,hwb⟩:=geZ (wv.alloc (.cells #[.int .i64 kr,.int .i64 kt,.int .i64 kn] 73));rw[hwb];have hbb:Below base wv wb:=by rw[<-hwb];exact(Below.refl _ _).alloc (Nat.le_trans HBS.out HB.out.size) _
  have hH:Has wb wv.heap.size 73 #[.int .i64 kr,.int .i64 kt,.int .i64 kn]:=by rw[<-hwb];exact Has.made _ _ _
  have HBW:=zq (HB.out.trans hbb);have HOW:=zq (HO.out.under (show Below wv.heap.size wv wb from by rw[<-hwb];exact bA));obtain⟨gl,hgl⟩: ∃g,wv.heap.size=g:=⟨_,rfl⟩
  simp only[hgl]at hH⊢;have HH:=zq hH;clear hwb hbb hH hgl d0 d1 d2 HO HB;have HC:=zq (HE.out ⟨kr,kt,kn⟩ wb HBW.out);unfold lcA at HC;dsimp only at HC;obtain⟨q,hq⟩:=geZ (p ⟨kr,kt,kn⟩);rw[hq]at HC;have HQ:=zq hq;clear hq;go_wp2_with (with_reducible refine ldZ 27 HH.out ?_);refine HC.out.mono ?_;rintro e w2 ⟨rfl,hb2⟩;have HB2:=zq (HBW.out.trans (hb2.mono (Nat.le_trans HBS.out HBW.out.size)));have HO2:=zq (HOW.out.under hb2);have HH2:=uH HH hb2;clear hb2 HC HOW HBW HH
  cases q with
  |true=>
   have HD2:=zq (del_drop16 HD.out HX.out HQ.out);clear HD HX HQ HH2;go_wp2;go_roundg (k1-1)
   case measure=>have:=HIN.out;omega
   case rel=>exact⟨i,j+1,L,by have:=HIN.out;omega,by have:=HIN.out;omega,rfl,by rw[IntWalk.wrap64_in _ (by have h1_:=HIN.out;have h2_:=HNB.out;omega)];go_num,HD2,HO2,HB2⟩
  |false=>
   have HD2:=zq (del_keep16 HD.out HX.out HQ.out);have HST:=zq (owl_store16 HO2.out HDI.out ⟨kr,kt,kn⟩);unfold lcC at HST;dsimp only at HST;obtain⟨hs1,hs2,hs3⟩:=HST.out;have HO3:=zq hs1;have HB3:=zq (HB2.out.trans hs2);have HTH:Hid (w2.there b (i*3) (#[.int .i64 kr,.int .i64 kt,.int .i64 kn]:Array Value).size):=zq hs3;have z0:(0:Int)<=i:=by omega
   have z1:(i:Int)<n:=by have:=HDI.out;omega
   clear HD HX HQ hs1 hs2 hs3 HST HO2;go_wp2_with (first|(with_reducible refine ldZ 32 HH2.out ?_)|(with_reducible refine wpList_store_mid (op:=⟨none,_,_,_,_,_⟩) rfl 73 _ _ rfl b (i*3) #[.int .i64 kr,.int .i64 kt,.int .i64 kn] rfl rfl HTH.out (by kernel_rfl) (by kernel_rfl) ?_));go_roundg (k1-1)
   case measure=>have:=HIN.out;omega
   case rel=>exact⟨i+1,j+1,L.set i ⟨kr,kt,kn⟩,by have:=HIN.out;omega,by have:=HIN.out;omega,by rw[IntWalk.wrap64_in _ (by have h1_:=HDI.out;have h2_:=HNB.out;omega)];go_num,by rw[IntWalk.wrap64_in _ (by have h1_:=HIN.out;have h2_:=HNB.out;omega)];go_num,HD2,HO3,HB3⟩
theorem owo_lo (p:Lc3->Bool)(l:List Lc3)(A:Option Addr)(n c:Nat)(g:Nat)(w:World)(hs:SlO lcC 3 w A n c l)(hn:n<=1000)
  (HE:Hid (∀(x:Lc3) W,Below w.heap.size w W->Calls Tryz.prog 106 #[.agg (lcA x),.pointer (some ⟨g,0,none⟩)] W fun e w'=>e= .returned (.bool (p x))/\Below W.heap.size W w')):
  Calls Tryz.prog 105 #[.slice A n c,.func (.func 106) #[] #[.pointer (some ⟨g,0,none⟩)]] w fun e w'=> ∃X k x,e= .returned (.slice X k x)/\OwR lcC 3 73 w.heap.size w' X k x (l.filter fun k=>!p k)/\Below w.heap.size w w':=by
 have H:=zq (oclonel_any A n c l w hs hn);have HN:=zq hn;clear hs hn;go_enter Tryz.func105,Tryz.ntmps105;go_wp2_with fail;refine H.out.mono ?_;rintro e w1 ⟨X,x,rfl,ho1,hb1⟩;have HO1:=zq ho1;have HB1:=zq hb1;clear ho1 hb1 H;go_wp2_with fail;refine(odf_lo p l X n x w.heap.size g w1 HO1.out HN.out HB1.out.size (zq fun y W hW=>HE.out y W (HB1.out.trans hW))).mono ?_;rintro e w2 ⟨k,rfl,ho2,hb2⟩;have HO2:=zq ho2;have HB2:=zq (HB1.out.trans hb2);clear ho2 hb2 HO1 HB1;go_wp2;go_ret
 exact⟨X,k,x,rfl,HO2.out,HB2.out⟩
theorem of_eq16 (l:List Lc3)(train:Int):(l.filter fun k=>!(!(k.train==train)))=ofL l train:=by
 unfold ofL
 congr 1
 funext k
 rw[Bool.not_not]
theorem oolof_any (l:List Lc3)(train:Int)(A:Option Addr)(n c:Nat)(w:World)(hs:SlO lcC 3 w A n c l)(hn:n<=1000):
  Calls Tryz.prog 40 #[.slice A n c,.int .i64 train] w fun r w'=> ∃X k x,r= .returned (.slice X k x)/\LkT w' X k x (ofL l train)/\Below w.heap.size w w':=by
 obtain⟨wa,hwa,hbwa,HWA,HBWA,h0⟩:=bx1Z w 3 #[.int .i64 train];have n0:wa.cell? ⟨w.heap.size,0,none⟩=some (.int .i64 train):=h0.cell 0;have H:=zq (owo_lo (fun k=>!(k.train==train)) l A n c (w.heap.size) wa (hs.under hbwa) hn (zq fun x W hW=>olco_any x train (w.heap.size) W ((hW.cell (cell_block n0)).trans n0)));rw[of_eq16]at H;generalize ofL l train=R at*;clear hwa hbwa h0 hs n0 hn;go_enter Tryz.func40,Tryz.ntmps40;go_upto_region 1 with fail;rw[HWA.out];clear HWA;go_wp2_with fail;refine H.out.mono ?_;rintro e_ w1 ⟨X,k,x,rfl,ho1,hb1⟩;have HO1:=zq (LkT.of_own ho1);have HB1:=tB HBWA hb1;clear hb1 ho1 H HBWA;go_wp2;go_ret
 exact⟨X,k,x,rfl,HO1.out,HB1.out⟩
end
section
open Go.RowKit
open Go.Great
theorem find_some17 {α:Type}{p:α->Bool}{l:List α}{i:Nat}{x:α}(hx:l[i]?=some x)(hp:p x=true)(hno: ∀j y,j<i->l[j]?=some y->p y=false):l.find? p=some x:=by
 rw[List.find?_eq_some_iff_append];obtain⟨hi,e⟩:=List.getElem?_eq_some_iff.1 hx;refine⟨hp,l.take i,l.drop (i+1),?_,fun y hy=>?_⟩
 ·rw[<-e,<-List.drop_eq_getElem_cons hi,List.take_append_drop]
 ·obtain⟨j,hj,rfl⟩:=List.getElem_of_mem hy
  rw[List.length_take]at hj;rw[List.getElem_take,hno j _ (by omega) (List.getElem?_eq_getElem (by omega))]
  rfl
theorem chain_next17 {t:Tp3}{l:List Lc3}{train:Int}{s:St3}{k:Nat}{q:List Lc3}{y:Lc3}(hk:k<8)(h:l.find? (okC t train s q)=some y):chainGo t l train s (8-k) q=chainGo t l train s (8-(k+1)) (q++[y]):=by
 rw[show 8-k=(8-(k+1))+1 by omega,chainGo,h]
theorem chain_stop17 {t:Tp3}{l:List Lc3}{train:Int}{s:St3}{k:Nat}{q:List Lc3}(h: ¬k<8\/l.find? (okC t train s q)=none):chainGo t l train s (8-k) q=q:=by
 cases hq:8-k with
 |zero=>rfl
 |succ j=>
  rcases h with h|h
  ·omega
  ·rw[chainGo,h]
theorem okC_rt {t:Tp3}{train:Int}{s:St3}{q:List Lc3}{y:Lc3}(h:okC t train s q y=true):(routeF t y.route).isSome=true:=by
 unfold okC at h;simp only[Bool.and_eq_true]at h;exact h.1.2
theorem path_some17 {t:Tp3}(hc:checkE t=0){id:Int}(h:(routeF t id).isSome=true):1<=(pathR t id).length:=by
 obtain⟨r,h1,h2,h3⟩:=route_path hc h;rw[h2];have h4:=(route_ok h3).2.1;omega
theorem last_at17 {l:List St3}(h:1<=l.length):l[l.length-1]?=some (lastS l):=by
 unfold lastS;rw[List.getLastD_eq_getLast?,List.getLast?_eq_getElem?,List.getElem?_eq_getElem (by omega)]
 rfl
end
section
structure VRow where
 name:ByteArray
 width:Nat
 most:Int
 special:Int
def vrows:List VRow:=[
 ⟨⟨#[78,73,68,95,77,69,83,83,65,71,69]⟩,8,-1,-1⟩,
 ⟨⟨#[76,95,77,69,83,83,65,71,69]⟩,10,-1,-1⟩,
 ⟨⟨#[84,95,84,82,65,73,78]⟩,32,-1,-1⟩,
 ⟨⟨#[77,95,65,67,75]⟩,1,-1,-1⟩,
 ⟨⟨#[78,73,68,95,76,82,66,71]⟩,24,-1,-1⟩,
 ⟨⟨#[78,73,68,95,80,65,67,75,69,84]⟩,8,-1,-1⟩,
 ⟨⟨#[81,95,68,73,82]⟩,2,2,-1⟩,
 ⟨⟨#[76,95,80,65,67,75,69,84]⟩,13,-1,-1⟩,
 ⟨⟨#[81,95,83,67,65,76,69]⟩,2,2,-1⟩,
 ⟨⟨#[78,73,68,95,69,78,71,73,78,69]⟩,24,-1,-1⟩,
 ⟨⟨#[78,73,68,95,67]⟩,10,-1,-1⟩,
 ⟨⟨#[78,73,68,95,66,71]⟩,14,-1,-1⟩,
 ⟨⟨#[81,95,78,69,87,67,79,85,78,84,82,89]⟩,1,-1,-1⟩,
 ⟨⟨#[68,95,76,82,66,71]⟩,15,-1,-1⟩,
 ⟨⟨#[81,95,68,73,82,76,82,66,71]⟩,2,2,-1⟩,
 ⟨⟨#[81,95,68,76,82,66,71]⟩,2,2,-1⟩,
 ⟨⟨#[76,95,68,79,85,66,84,79,86,69,82]⟩,15,-1,-1⟩,
 ⟨⟨#[76,95,68,79,85,66,84,85,78,68,69,82]⟩,15,-1,-1⟩,
 ⟨⟨#[81,95,76,69,78,71,84,72]⟩,2,-1,-1⟩,
 ⟨⟨#[76,95,84,82,65,73,78,73,78,84]⟩,15,-1,-1⟩,
 ⟨⟨#[86,95,84,82,65,73,78]⟩,7,120,127⟩,
 ⟨⟨#[81,95,68,73,82,84,82,65,73,78]⟩,2,2,-1⟩,
 ⟨⟨#[77,95,77,79,68,69]⟩,4,14,-1⟩,
 ⟨⟨#[77,95,76,69,86,69,76]⟩,3,4,-1⟩,
 ⟨⟨#[78,73,68,95,78,84,67]⟩,8,-1,-1⟩,
 ⟨⟨#[86,95,69,77,65]⟩,7,120,-1⟩,
 ⟨⟨#[84,95,69,77,65]⟩,10,-1,-1⟩,
 ⟨⟨#[78,95,73,84,69,82]⟩,5,-1,-1⟩,
 ⟨⟨#[76,95,83,69,67,84,73,79,78]⟩,15,-1,-1⟩,
 ⟨⟨#[81,95,83,69,67,84,73,79,78,84,73,77,69,82]⟩,1,-1,-1⟩,
 ⟨⟨#[84,95,83,69,67,84,73,79,78,84,73,77,69,82]⟩,10,-1,-1⟩,
 ⟨⟨#[68,95,83,69,67,84,73,79,78,84,73,77,69,82,83,84,79,80,76,79,67]⟩,15,-1,-1⟩,
 ⟨⟨#[76,95,69,78,68,83,69,67,84,73,79,78]⟩,15,-1,-1⟩,
 ⟨⟨#[81,95,69,78,68,84,73,77,69,82]⟩,1,-1,-1⟩,
 ⟨⟨#[84,95,69,78,68,84,73,77,69,82]⟩,10,-1,-1⟩,
 ⟨⟨#[68,95,69,78,68,84,73,77,69,82,83,84,65,82,84,76,79,67]⟩,15,-1,-1⟩,
 ⟨⟨#[81,95,68,65,78,71,69,82,80,79,73,78,84]⟩,1,-1,-1⟩,
 ⟨⟨#[68,95,68,80]⟩,15,-1,-1⟩,
 ⟨⟨#[86,95,82,69,76,69,65,83,69,68,80]⟩,7,120,126⟩,
 ⟨⟨#[81,95,79,86,69,82,76,65,80]⟩,1,-1,-1⟩,
 ⟨⟨#[68,95,83,84,65,82,84,79,76]⟩,15,-1,-1⟩,
 ⟨⟨#[84,95,79,76]⟩,10,-1,-1⟩,
 ⟨⟨#[68,95,79,76]⟩,15,-1,-1⟩,
 ⟨⟨#[86,95,82,69,76,69,65,83,69,79,76]⟩,7,120,126⟩,
 ⟨⟨#[68,95,76,73,78,75]⟩,15,-1,-1⟩,
 ⟨⟨#[81,95,76,73,78,75,79,82,73,69,78,84,65,84,73,79,78]⟩,1,-1,-1⟩,
 ⟨⟨#[81,95,76,73,78,75,82,69,65,67,84,73,79,78]⟩,2,2,-1⟩,
 ⟨⟨#[81,95,76,79,67,65,67,67]⟩,6,-1,-1⟩,
 ⟨⟨#[68,95,71,82,65,68,73,69,78,84]⟩,15,-1,-1⟩,
 ⟨⟨#[81,95,71,68,73,82]⟩,1,-1,-1⟩,
 ⟨⟨#[71,95,65]⟩,8,-1,-1⟩,
 ⟨⟨#[68,95,83,84,65,84,73,67]⟩,15,-1,-1⟩,
 ⟨⟨#[86,95,83,84,65,84,73,67]⟩,7,120,127⟩,
 ⟨⟨#[81,95,70,82,79,78,84]⟩,1,-1,-1⟩,
 ⟨⟨#[78,67,95,68,73,70,70]⟩,4,-1,-1⟩,
 ⟨⟨#[86,95,68,73,70,70]⟩,7,120,-1⟩,
 ⟨⟨#[68,95,77,65,77,79,68,69]⟩,15,-1,-1⟩,
 ⟨⟨#[77,95,77,65,77,79,68,69]⟩,2,2,-1⟩,
 ⟨⟨#[86,95,77,65,77,79,68,69]⟩,7,120,127⟩,
 ⟨⟨#[76,95,77,65,77,79,68,69]⟩,15,-1,-1⟩,
 ⟨⟨#[76,95,65,67,75,77,65,77,79,68,69]⟩,15,-1,-1⟩,
 ⟨⟨#[81,95,77,65,77,79,68,69]⟩,1,-1,-1⟩,
 ⟨⟨#[81,95,82,66,67]⟩,1,-1,-1⟩,
 ⟨⟨#[78,73,68,95,82,66,67]⟩,14,-1,-1⟩,
 ⟨⟨#[78,73,68,95,82,65,68,73,79]⟩,32,-1,-1⟩,
 ⟨⟨#[81,95,83,76,69,69,80,83,69,83,83,73,79,78]⟩,1,-1,-1⟩,
 ⟨⟨#[84,95,77,65,82]⟩,8,-1,-1⟩,
 ⟨⟨#[84,95,84,73,77,69,79,85,84,82,81,83,84]⟩,10,-1,-1⟩,
 ⟨⟨#[84,95,67,89,67,82,81,83,84]⟩,8,-1,-1⟩,
 ⟨⟨#[84,95,67,89,67,76,79,67]⟩,8,-1,-1⟩,
 ⟨⟨#[68,95,67,89,67,76,79,67]⟩,15,-1,-1⟩,
 ⟨⟨#[77,95,76,79,67]⟩,3,2,-1⟩,
 ⟨⟨#[68,95,76,79,67]⟩,15,-1,-1⟩,
 ⟨⟨#[81,95,76,71,84,76,79,67]⟩,1,-1,-1⟩,
 ⟨⟨#[78,73,68,95,80,82,86,76,82,66,71]⟩,24,-1,-1⟩,
 ⟨⟨#[78,73,68,95,79,80,69,82,65,84,73,79,78,65,76]⟩,32,-1,-1⟩,
 ⟨⟨#[78,67,95,84,82,65,73,78]⟩,15,-1,-1⟩,
 ⟨⟨#[76,95,84,82,65,73,78]⟩,12,-1,-1⟩,
 ⟨⟨#[86,95,77,65,88,84,82,65,73,78]⟩,7,120,-1⟩,
 ⟨⟨#[77,95,76,79,65,68,73,78,71,71,65,85,71,69]⟩,8,-1,-1⟩,
 ⟨⟨#[77,95,65,88,76,69,76,79,65,68]⟩,7,-1,-1⟩,
 ⟨⟨#[77,95,65,73,82,84,73,71,72,84]⟩,2,1,-1⟩,
 ⟨⟨#[77,95,84,82,65,67,84,73,79,78]⟩,8,-1,-1⟩,
 ⟨⟨#[78,73,68,95,83,84,77]⟩,8,-1,-1⟩,
 ⟨⟨#[68,95,86,65,76,73,68,78,86]⟩,15,-1,-1⟩,
 ⟨⟨#[86,95,78,86,83,72,85,78,84]⟩,7,120,-1⟩,
 ⟨⟨#[84,95,78,86,67,79,78,84,65,67,84]⟩,8,-1,-1⟩,
 ⟨⟨#[77,95,78,86,67,79,78,84,65,67,84]⟩,2,2,-1⟩,
 ⟨⟨#[78,73,68,95,69,77]⟩,4,-1,-1⟩,
 ⟨⟨#[68,95,82,69,70]⟩,16,-1,-1⟩,
 ⟨⟨#[68,95,69,77,69,82,71,69,78,67,89,83,84,79,80]⟩,15,-1,-1⟩,
 ⟨⟨#[81,95,69,77,69,82,71,69,78,67,89,83,84,79,80]⟩,2,-1,-1⟩,
 ⟨⟨#[77,95,86,69,82,83,73,79,78]⟩,7,-1,-1⟩,
 ⟨⟨#[81,95,83,84,65,84,85,83]⟩,2,-1,-1⟩,
 ⟨⟨#[81,95,77,65,82,81,83,84,82,69,65,83,79,78]⟩,5,-1,-1⟩,
 ⟨⟨#[68,95,83,82]⟩,15,-1,-1⟩]
def vnone:VRow:=⟨ByteArray.empty,0,0,0⟩
def vrow (v:Int):VRow:=if 0<=v/\v<96 then vrows.getD v.toNat vnone else vnone
theorem vrow_in {v:Int}(h:0<=v/\v<96):vrow v=vrows.getD v.toNat vnone:=if_pos h
theorem vrow_out {v:Int}(h: ¬(0<=v/\v<96)):vrow v=vnone:=if_neg h
theorem vrows_length:vrows.length=96:=by decide
def widthOf (v:Int):Nat:=(vrow v).width
def mostOf (v:Int):Int:=if(vrow v).most<0 then 2^widthOf v-1 else(vrow v).most
def specialOf (v:Int):Int:=if(vrow v).special<0 then 0 else(vrow v).special
def greatestOf (v:Int):Int:=2^widthOf v-1
def mayOf (v n:Int):Bool:=decide (0<=v/\v<96) &&decide (0<=n) &&(decide (n<=mostOf v)||(decide (specialOf v≠0) &&decide (specialOf v<=n) &&decide (n<=greatestOf v)))
theorem vall (p:Nat->Bool)(h:(List.range 96).all p=true)(v:Int)(h0:0<=v)(h1:v<96):p v.toNat=true:=
 List.all_eq_true.1 h v.toNat (List.mem_range.2 (by omega))
end
section
open Go.RowKit
def Wd (w:World):Prop:= ∀i,i<96->w.cell? ⟨0,i,none⟩=some (.int .i64 (((vrows.getD i vnone).width:Nat):Int))
theorem Wd.under {w w':World}(h:Wd w)(hb:Below w.heap.size w w'):Wd w':=fun i hi=>by
 rw[hb.cell (cell_block (h i hi))];exact h i hi
theorem exists_yes (v:Int)(h0:0<=v)(h1:v<96)(w:World):
  Calls Tryz.prog 242 #[.int .i64 v] w fun e w'=>e= .returned (.bool true)/\w=w':=by
 go_enter Tryz.func242,Tryz.ntmps242;go_wp2;go_ret
 exact⟨rfl,rfl⟩
theorem exists_no (v:Int)(h: ¬(0<=v/\v<96))(w:World):
  Calls Tryz.prog 242 #[.int .i64 v] w fun e w'=>e= .returned (.bool false)/\w=w':=by
 by_cases h0:0<=v
 ·have h1: ¬v<96:=by omega
  clear h;go_enter Tryz.func242,Tryz.ntmps242;go_wp2;go_ret
  exact⟨rfl,rfl⟩
 ·clear h
  go_enter Tryz.func242,Tryz.ntmps242;go_wp2;go_ret
  exact⟨rfl,rfl⟩
theorem width_any (v:Int)(w:World)(hw:Wd w):
  Calls Tryz.prog 212 #[.int .i64 v] w fun e w'=>e= .returned (.int .i64 ((widthOf v:Nat):Int))/\w=w':=by
 by_cases h:0<=v/\v<96
 ·have hc:=hw v.toNat (by omega)
  rw[widthOf,vrow_in h];generalize (vrows.getD v.toNat vnone).width=W at*;obtain⟨h0,h1⟩:=h;have HW:=zq hw;clear hw;go_enter Tryz.func212,Tryz.ntmps212;go_wp2_with fail;refine(exists_yes v h0 h1 w).mono ?_;rintro e w' ⟨rfl,rfl⟩;go_wp2;go_ret
  exact⟨rfl,rfl⟩
 ·rw[widthOf,vrow_out h]
  have H:=zq h;clear h hw;go_enter Tryz.func212,Tryz.ntmps212;go_wp2_with fail;refine(exists_no v H.out w).mono ?_;rintro e w' ⟨rfl,rfl⟩;go_wp2;go_ret
  exact⟨rfl,rfl⟩
theorem width_le (v:Int):widthOf v<=32:=by
 by_cases h:0<=v/\v<96
 ·have:=vall (fun i=>decide ((vrows.getD i vnone).width<=32)) (by decide+kernel) v h.1 h.2
  rw[widthOf,vrow_in h];exact of_decide_eq_true this
 ·rw[widthOf,vrow_out h];decide
theorem greatest_any (v:Int)(w:World)(hw:Wd w):
  Calls Tryz.prog 265 #[.int .i64 v] w fun e w'=>e= .returned (.int .i64 (greatestOf v))/\w=w':=by
 have hle:=width_le v;have c:=width_any v w hw;rw[greatestOf];generalize widthOf v=W at*;obtain⟨P,hP⟩: ∃P,P=2^W:=⟨_,rfl⟩
 have hP1:1<=P:=by rw[hP];exact Nat.one_le_two_pow
 have hP2:P<=2^32:=by rw[hP];exact Nat.pow_le_pow_right (by omega) hle
 have e:((2:Int)^W)=(P:Int):=by rw[hP];simp
 rw[e];have C:=zq c;clear c;have HP:=zq hP;clear hP;have HW:=zq hw;clear hw;go_enter Tryz.func265,Tryz.ntmps265;go_wp2_with fail;refine C.out.mono ?_;rintro e w' ⟨rfl,rfl⟩;go_wp2;go_ret
 exact⟨rfl,rfl⟩
theorem special_none (v:Int)(h: ¬(v=38\/v=43\/v=20\/v=52\/v=58)):specialOf v=0:=by
 by_cases hv:0<=v/\v<96
 ·have:=vall (fun i=>decide ((vrows.getD i vnone).special<0\/i=38\/i=43\/i=20\/i=52\/i=58)) (by decide+kernel) v hv.1 hv.2
  have:=of_decide_eq_true this;rw[specialOf,vrow_in hv,if_pos (by omega)]
 ·rw[specialOf,vrow_out hv];rfl
theorem special_any (v:Int)(w:World):
  Calls Tryz.prog 263 #[.int .i64 v] w fun e w'=>e= .returned (.int .i64 (specialOf v))/\w=w':=by
 by_cases h:v=38\/v=43\/v=20\/v=52\/v=58
 ·rcases h with rfl|rfl|rfl|rfl|rfl
  all_goals
   go_enter Tryz.func263,Tryz.ntmps263;go_wp2;go_ret
   exact⟨by kernel_rfl,rfl⟩
 ·rw[special_none v h]
  have h1:v≠38:=by omega
  have h2:v≠43:=by omega
  have h3:v≠20:=by omega
  have h4:v≠52:=by omega
  have h5:v≠58:=by omega
  clear h;go_enter Tryz.func263,Tryz.ntmps263;go_wp2;go_ret
  exact⟨rfl,rfl⟩
theorem most_else (v:Int)(h: ¬(v=81\/v=6\/v=8\/v=14\/v=15\/v=21\/v=46\/v=57\/v=71\/v=87\/v=23\/v=22\/v=20\/v=25\/v=38\/v=43\/v=52\/v=55\/v=58\/v=78\/v=85)):mostOf v=greatestOf v:=by
 by_cases hv:0<=v/\v<96
 ·have:=vall (fun i=>decide ((vrows.getD i vnone).most<0\/i=81\/i=6\/i=8\/i=14\/i=15\/i=21\/i=46\/i=57\/i=71\/i=87\/i=23\/i=22\/i=20\/i=25\/i=38\/i=43\/i=52\/i=55\/i=58\/i=78\/i=85)) (by decide+kernel) v hv.1 hv.2
  have:=of_decide_eq_true this;rw[mostOf,vrow_in hv,if_pos (by omega),greatestOf]
 ·rw[mostOf,greatestOf,widthOf,vrow_out hv];rfl
theorem most_any (v:Int)(w:World)(hw:Wd w):
  Calls Tryz.prog 264 #[.int .i64 v] w fun e w'=>e= .returned (.int .i64 (mostOf v))/\w=w':=by
 by_cases h:v=81\/v=6\/v=8\/v=14\/v=15\/v=21\/v=46\/v=57\/v=71\/v=87\/v=23\/v=22\/v=20\/v=25\/v=38\/v=43\/v=52\/v=55\/v=58\/v=78\/v=85
 ·clear hw
  rcases h with rfl|rfl|rfl|rfl|rfl|rfl|rfl|rfl|rfl|rfl|rfl|rfl|rfl|rfl|rfl|rfl|rfl|rfl|rfl|rfl|rfl
  all_goals
   go_enter Tryz.func264,Tryz.ntmps264;go_wp2;go_ret
   exact⟨by kernel_rfl,rfl⟩
 ·rw[most_else v h]
  have c:=greatest_any v w hw;generalize greatestOf v=G at*;have C:=zq c;clear c hw;have h81:v≠81:=by omega
  have h6:v≠6:=by omega
  have h8:v≠8:=by omega
  have h14:v≠14:=by omega
  have h15:v≠15:=by omega
  have h21:v≠21:=by omega
  have h46:v≠46:=by omega
  have h57:v≠57:=by omega
  have h71:v≠71:=by omega
  have h87:v≠87:=by omega
  have h23:v≠23:=by omega
  have h22:v≠22:=by omega
  have h20:v≠20:=by omega
  have h25:v≠25:=by omega
  have h38:v≠38:=by omega
  have h43:v≠43:=by omega
  have h52:v≠52:=by omega
  have h55:v≠55:=by omega
  have h58:v≠58:=by omega
  have h78:v≠78:=by omega
  have h85:v≠85:=by omega
  clear h;go_enter Tryz.func264,Tryz.ntmps264;go_wp2_with fail;refine C.out.mono ?_;rintro e w' ⟨rfl,rfl⟩;go_wp2;go_ret
  exact⟨rfl,rfl⟩
end
namespace BitsM
def num (l:List Bool):Nat:=l.foldl (fun a b=>2*a+b.toNat) 0
theorem num_snoc (l:List Bool)(b:Bool):num (l++[b])=2*num l+b.toNat:=by simp[num,List.foldl_append]
theorem list_snoc_ind {p:List Bool->Prop}(h0:p [])(h1: ∀l b,p l->p (l++[b])): ∀l,p l:=by
 intro l;have: ∀n,∀l:List Bool,l.length=n->p l:=by
  intro n
  induction n with
  |zero=>intro l hl;have:l=[]:=List.eq_nil_of_length_eq_zero hl;subst this;exact h0
  |succ n ih=>
   intro l hl;have hne:l≠[]:=by intro e;subst e;simp at hl
   rw[<-List.dropLast_concat_getLast hne];exact h1 _ _ (ih _ (by simp;omega))
 exact this _ l rfl
theorem num_testBit (l:List Bool): ∀j,(num l).testBit j=(decide (j<l.length) &&l.getD (l.length-1-j) false):=by
 refine list_snoc_ind (p:=fun l=> ∀j,(num l).testBit j=(decide (j<l.length) &&l.getD (l.length-1-j) false)) (by intro j;simp[num]) (fun l b ih j=>?_) l;rw[num_snoc]
 cases j with
 |zero=>
  rw[Nat.testBit_zero]
  cases b<;>simp[Nat.add_mod]
 |succ j=>
  rw[Nat.testBit_succ];have e:(2*num l+b.toNat)/2=num l:=by cases b<;>simp<;>omega
  rw[e,ih j];simp only[List.length_append,List.length_singleton];by_cases hj:j<l.length
  ·have h1:l.length+1-1-(j+1)=l.length-1-j:=by omega
   rw[h1];have h2:l.length-1-j<l.length:=by omega
   simp[hj,List.getD_eq_getElem?_getD,List.getElem?_append_left h2]
  ·simp[hj]
theorem num_eq_of {l:List Bool}{n:Nat}(hn:n<2^l.length)(h: ∀j,j<l.length->n.testBit j=l.getD (l.length-1-j) false):num l=n:=by
 apply Nat.eq_of_testBit_eq
 intro j;rw[num_testBit];by_cases hj:j<l.length
 ·simp[hj,h j hj]
 ·have:n.testBit j=false:=Nat.testBit_lt_two_pow (Nat.lt_of_lt_of_le hn (Nat.pow_le_pow_right (by omega) (by omega)))
  simp[hj,this]
def wbits (n w j:Nat):List Bool:=(List.range j).map fun k=>n.testBit (w-1-k)
theorem wbits_length (n w j:Nat):(wbits n w j).length=j:=by simp[wbits]
theorem wbits_getD (n w j i:Nat)(h:i<j):(wbits n w j).getD i false=n.testBit (w-1-i):=by
 simp[wbits,List.getD_eq_getElem?_getD,h]
theorem num_wbits (n w:Nat)(h:n<2^w):num (wbits n w w)=n:=by
 apply num_eq_of
 ·simpa[wbits_length]using h
 ·intro j hj
  rw[wbits_length]at hj⊢;rw[wbits_getD _ _ _ _ (by omega)]
  congr 1
  omega
end BitsM
section
open Go.ChangeShapes Go.WideShapes Go.ChangeAt Go.RowKit Go.Deep
def InInts (k:IntKind)(w:World)(A:Option Addr)(n:Nat)(zs:List Int):Prop:=
 zs.length=n/\n<=maxLen/\(0<n-> ∃ad:Addr,A=some ad/\ ∀i,i<n->w.cell? (ad.add i)=some (.int k (zs.getD i 0)))/\ ∀z∈zs,(Lit.int k z).wf=true
end
section
open Go.RowKit Go.ChangeAt
def u8s (l:List Nat):List Value:=l.map fun(n:Nat)=>Value.int .u8 (n:Int)
def At8 (w:World)(A:Option Addr)(xs:List Nat):Prop:=0<xs.length-> ∃ad,A=some ad/\ ∀j v,(u8s xs)[j]?=some v->w.cell? (ad.add j)=some v
def InBytes (w:World)(A:Option Addr)(n:Nat)(xs:List Nat):Prop:=xs.length=n/\n<=maxLen/\At8 w A xs/\ ∀x∈xs,x<256
theorem InInts.bytes {w:World}{A:Option Addr}{n:Nat}{zs:List Int}(h:InInts .u8 w A n zs):InBytes w A n (zs.map Int.toNat):=by
 obtain⟨hl,hm,hc,hwz⟩:=h;have hb: ∀z∈zs,0<=z/\z<=255:=fun z hz=>by have:=hwz z hz;simpa[Lit.wf,IntKind.min,IntKind.max,IntKind.signed,IntKind.bits]using this
 refine⟨by simpa using hl,hm,fun hpos=>?_,fun x hx=>?_⟩
 ·obtain⟨ad,e,hcell⟩:=hc (by simp at hpos;omega)
  refine⟨ad,e,fun j v hv=>?_⟩;have hj:j<n:=by
   have:=(List.getElem?_eq_some_iff.1 hv).1;simp[u8s]at this;omega
  have hj':j<zs.length:=by omega
  rw[hcell j hj,<-hv];have:=hb zs[j] (List.getElem_mem _);simp[u8s,List.getD_eq_getElem?_getD,hj'];omega
 ·simp only[List.mem_map]at hx
  obtain⟨z,hz,rfl⟩:=hx;have:=hb z hz;omega
end
section
open Go.RowKit
open BitsM
def bools (l:List Bool):List Value:=l.map Value.bool
theorem bools_length (l:List Bool):(bools l).length=l.length:=by simp[bools]
def SlB (w:World)(A:Option Addr)(m c:Nat)(bs:List Bool):Prop:=bs.length=m/\Sl w 1 A m c (bools bs)
theorem SlB.under {w w':World}{A:Option Addr}{m c:Nat}{bs:List Bool}(h:SlB w A m c bs)(hb:Below w.heap.size w w'):SlB w' A m c bs:=⟨h.1,h.2.under hb⟩
theorem SlB.grow {w w':World}{A:Option Addr}{m c:Nat}{bs:List Bool}{g:Nat}{t:TypeId}{cs:Array Value}(h:SlB w A m c bs)(hg:w.grownBy w' (some g))(hh:Has w g t cs)(hn: ∀v∈cs,∀b,v≠ .bool b):SlB w' A m c bs:=by
 refine⟨h.1,h.2.1,h.2.2.1,fun ad ha j u hu=>?_⟩;have h0:=h.2.2.2 ad ha j u hu;have hblk:=cell_block h0;have hne:(ad.add j).block≠g:=by
  intro e;clear hblk;generalize ad.add j=a at h0 e;obtain⟨b,off,spot⟩:=a;have e':b=g:=e;subst e';have hs:spot=none:=World.cell?_spot h0;subst hs;rw[hh.cell]at h0;have hmem:=Array.mem_of_getElem? h0;have hu':u∈bools bs:=List.mem_of_getElem? hu;simp only[bools,List.mem_map]at hu';obtain⟨b,_,rfl⟩:=hu';exact hn _ hmem b rfl
 rw[World.cell?_of_block (hg.block (ad.add j).block hblk (fun e=>hne (by injection e)))];exact h0
end
section
open Go.RowKit
open BitsM
theorem SlB.cut {w:World}{A:Option Addr}{m c:Nat}{bs:List Bool}(h:SlB w A m c bs)(hmc:m<=c){k:Nat}(hk:k<=m)(b off:Nat)(hA:A=some ⟨b,off,none⟩):
  SlB w (if c=k then some ⟨b,off,none⟩else some ⟨b,off+k,none⟩) (m-k) (c-k) (bs.drop k):=by
 have hl:=h.1;refine⟨by rw[List.length_drop];omega,by rw[bools_length,List.length_drop];omega,fun e=>?_,fun ad ha j u hu=>?_⟩
 ·split at e<;>cases e
 ·have hu':(bools bs)[k+j]?=some u:=by
   unfold bools at hu⊢;rw[List.getElem?_map,List.getElem?_drop]at hu;rw[List.getElem?_map];exact hu
  have hj:k+j<bs.length:=by
   have:=(List.getElem?_eq_some_iff.1 hu').1
   rwa [bools_length]at this
  have hck:c≠k:=by omega
  rw[if_neg hck]at ha;injection ha with ha
  subst ha;have h0:=h.2.2.2 _ hA (k+j) u hu';rw[WideShapes.add_plain]at h0⊢;rw[Nat.add_assoc];exact h0
end
section
open Go.RowKit
theorem cut_from {P:Program}(t e:TypeId)(h:P.underlying t=some (.slice e))(_he:P.elem t=e)(hs:(P.info? e).map (·.size)=some 1)(A:Option Addr)(n c p:Nat)(hp:p<=n)(w:World):
  (Instr.sliceAt t (.slice A n c) (some (.int .i64 (p:Nat))) none none).run P w= .ok (.slice (if c=p then A else A.map (·.add (p*1))) (n-p) (c-p)) w:=by
 have e1:(sizeOf e).run P w= .ok 1 w:=by
  cases hi:P.info? e with
  |none=>rw[hi]at hs;cases hs
  |some i=>
   rw[hi]at hs;simp only[Option.map_some,Option.some.injEq]at hs;simp[sizeOf,run_typeInfo _ hi,hs]
 have h0:(0:Int)<=(p:Nat):=by omega
 have h1:((p:Nat):Int)<=(n:Nat):=by omega
 simp[Instr.sliceAt,Instr.slice,run_underlying h,Instr.sliceBounds,run_sliceBound,h0,h1,e1]
theorem Sl.from_ {w:World}{A:Option Addr}{n c:Nat}{vs:List Value}(h:Sl w 1 A n c vs)(hc:n<=c){p:Nat}(hp:p<=n):Sl w 1 (if c=p then A else A.map (·.add (p*1))) (n-p) (c-p) (vs.drop p):=by
 have hl:vs.length=n:=by have:=h.1;omega
 refine⟨by rw[List.length_drop];omega,fun e=>?_,fun ad ha j u hu=>?_⟩
 ·cases A with
  |none=>have:=h.2.1 rfl;omega
  |some a=>
   rw[Option.map_some]at e;split at e<;>cases e
 ·have hj:j<n-p:=by
   have:=(List.getElem?_eq_some_iff.1 hu).1;rw[List.length_drop]at this;omega
  rw[List.getElem?_drop]at hu;rw[if_neg (by omega)]at ha
  cases A with
  |none=>cases ha
  |some a=>
   rw[Option.map_some]at ha;injection ha with ha
   subst ha;have h0:=h.2.2 a rfl (p+j) u hu;have e:(a.add (p*1)).add j=a.add (p+j):=by
    unfold Addr.add;by_cases h1:p=0
    ·subst h1;simp
    ·by_cases h2:j=0
     ·subst h2;simp[h1]
     ·simp[h1,h2,Nat.add_assoc]
   rw[e];exact h0
theorem Sl.to_ {w:World}{A:Option Addr}{n c:Nat}{vs:List Value}(h:Sl w 1 A n c vs){p:Nat}(hp:p<=n):Sl w 1 (if c=0 then A else A.map (·.add (0*1))) p c (vs.take p):=by
 have hl:vs.length=n:=by have:=h.1;omega
 refine⟨by rw[List.length_take];omega,fun e=>?_,fun ad ha j u hu=>?_⟩
 ·cases A with
  |none=>have:=h.2.1 rfl;omega
  |some a=>
   rw[Option.map_some]at e;split at e<;>cases e
 ·have hj:j<p:=by
   have:=(List.getElem?_eq_some_iff.1 hu).1;rw[List.length_take]at this;omega
  rw[List.getElem?_take_of_lt hj]at hu
  cases A with
  |none=>split at ha<;>cases ha
  |some a=>
   rw[Option.map_some]at ha;have e:(a.add (0*1))=a:=by unfold Addr.add;simp
   rw[e]at ha;have ha':ad=a:=by split at ha<;>(injection ha with ha;exact ha.symm)
   subst ha';exact h.2.2 ad rfl j u hu
theorem from_block {A:Option Addr}{c p:Nat}: ∀a',(if c=p then A else A.map (·.add (p*1)))=some a'-> ∃a,A=some a/\a'.block=a.block:=by
 intro a' h
 cases A with
 |none=>split at h<;>cases h
 |some a=>
  refine⟨a,rfl,?_⟩;rw[Option.map_some]at h;split at h<;>(injection h with h;rw[<-h])
  unfold Addr.add;split<;>rfl
end
section
open Go.RowKit
inductive Pt where
 |mk (v:Nat) (k:Nat) (body:List Pt)
def nats (l:List Nat):List Value:=l.map fun(n:Nat)=> .int .i64 (n:Int)
def onlyOf (k:Nat):List Nat:=if k=1 then[1]else if k=2 then[1,2]else[]
structure SlZ (lo hi:Nat) (w:World) (size:Nat) (A:Option Addr) (n c:Nat) (vs:List Value):Prop where
 sl:Sl w size A n c vs
 zone: ∀a,A=some a->lo<=a.block/\a.block<hi
mutual
def PtAt (lo hi:Nat)(w:World):Pt->List Value->Prop
 | .mk v k b,cs=> ∃Ao co Af nf cf fc,cs=[.int .i64 (v:Int),.bool (decide (k=0)),.slice Ao (onlyOf k).length co,.slice Af nf cf]/\SlZ lo hi w 1 Ao (onlyOf k).length co (nats (onlyOf k))/\b.length=nf/\nf<=cf/\SlZ lo hi w 4 Af nf cf fc/\PtsAt lo hi w b fc
def PtsAt (lo hi:Nat)(w:World):List Pt->List Value->Prop
 |[],cs=>cs=[]
 |x::l,cs=> ∃c1 c2,cs=c1++c2/\PtAt lo hi w x c1/\PtsAt lo hi w l c2
end
def Zone (lo hi:Nat)(w w':World):Prop:= ∀k,lo<=k->k<hi->w'.heap[k]?=w.heap[k]?
theorem add_blk (a:Addr)(j:Nat):(a.add j).block=a.block:=by unfold Addr.add;split<;>rfl
theorem SlZ.keep {lo hi lo' hi':Nat}{w w':World}{size:Nat}{A:Option Addr}{n c:Nat}{vs:List Value}(h:SlZ lo hi w size A n c vs)(hz:Zone lo hi w w')(h1:lo'<=lo)(h2:hi<=hi'):SlZ lo' hi' w' size A n c vs:=by
 refine⟨⟨h.sl.1,h.sl.2.1,fun ad ha j u hu=>?_⟩,fun a ha=>?_⟩
 ·have h0:=h.sl.2.2 ad ha j u hu
  obtain⟨z1,z2⟩:=h.zone ad ha;rw[World.cell?_of_block (w:=w) (by rw[add_blk];exact hz _ z1 z2)];exact h0
 ·obtain⟨z1,z2⟩:=h.zone a ha
  exact⟨Nat.le_trans h1 z1,Nat.lt_of_lt_of_le z2 h2⟩
mutual
theorem PtAt.keep {lo hi lo' hi':Nat}{w w':World}(hz:Zone lo hi w w')(h1:lo'<=lo)(h2:hi<=hi'): ∀(x:Pt) (cs:List Value),PtAt lo hi w x cs->PtAt lo' hi' w' x cs
 | .mk v k b,cs,h=>by
  rw[PtAt]at h⊢;obtain⟨Ao,co,Af,nf,cf,fc,e,a1,a2,a3,a4,a5⟩:=h;exact⟨Ao,co,Af,nf,cf,fc,e,a1.keep hz h1 h2,a2,a3,a4.keep hz h1 h2,PtsAt.keep hz h1 h2 b fc a5⟩
theorem PtsAt.keep {lo hi lo' hi':Nat}{w w':World}(hz:Zone lo hi w w')(h1:lo'<=lo)(h2:hi<=hi'): ∀(l:List Pt) (cs:List Value),PtsAt lo hi w l cs->PtsAt lo' hi' w' l cs
 |[],cs,h=>by rw[PtsAt]at h⊢;exact h
 |x::l,cs,h=>by
  rw[PtsAt]at h⊢;obtain⟨c1,c2,e,a1,a2⟩:=h;exact⟨c1,c2,e,PtAt.keep hz h1 h2 x c1 a1,PtsAt.keep hz h1 h2 l c2 a2⟩
end
theorem ptsAt_append {lo hi:Nat}{w:World}: ∀ {l1 l2:List Pt} {c1 c2:List Value},PtsAt lo hi w l1 c1->PtsAt lo hi w l2 c2->PtsAt lo hi w (l1++l2) (c1++c2)
 |[],l2,c1,c2,h1,h2=>by rw[PtsAt]at h1;subst h1;exact h2
 |x::l,l2,c1,c2,h1,h2=>by
  rw[PtsAt]at h1;obtain⟨d1,d2,e,a1,a2⟩:=h1;rw[List.cons_append,PtsAt];exact⟨d1,d2++c2,by rw[e,List.append_assoc],a1,ptsAt_append a2 h2⟩
theorem ptAt_cells {lo hi:Nat}{w:World}{x:Pt}{cs:List Value}(h:PtAt lo hi w x cs):cs.length=4/\ ∀u∈cs,u.oneCell'=true:=by
 cases x with
 |mk v k b=>
  rw[PtAt]at h;obtain⟨Ao,co,Af,nf,cf,fc,rfl,_⟩:=h;refine⟨rfl,fun u hu=>?_⟩;simp only[List.mem_cons,List.not_mem_nil,or_false]at hu
  rcases hu with rfl|rfl|rfl|rfl<;>rfl
theorem ptsAt_cells {lo hi:Nat}{w:World}: ∀ {l:List Pt} {cs:List Value},PtsAt lo hi w l cs->cs.length=l.length*4/\ ∀u∈cs,u.oneCell'=true
 |[],cs,h=>by rw[PtsAt]at h;subst h;exact⟨rfl,fun u hu=>by cases hu⟩
 |x::l,cs,h=>by
  rw[PtsAt]at h;obtain⟨d1,d2,rfl,a1,a2⟩:=h;obtain⟨b1,b2⟩:=ptAt_cells a1;obtain⟨b3,b4⟩:=ptsAt_cells a2;refine⟨by rw[List.length_append,b1,b3,List.length_cons];omega,fun u hu=>?_⟩
  rcases List.mem_append.1 hu with hu|hu
  ·exact b2 u hu
  ·exact b4 u hu
theorem ptsAt_at {lo hi:Nat}{w:World}: ∀ {l:List Pt} {cs:List Value} (pre:List Pt) (x:Pt) (post:List Pt),l=pre++x::post->PtsAt lo hi w l cs-> ∃c1 c2 c3,cs=c1++c2++c3/\c1.length=pre.length*4/\PtAt lo hi w x c2
 |l,cs,[],x,post,e,h=>by
  subst e;rw[List.nil_append,PtsAt]at h;obtain⟨d1,d2,rfl,a1,_⟩:=h;exact⟨[],d1,d2,rfl,rfl,a1⟩
 |l,cs,y::pre,x,post,e,h=>by
  subst e;rw[List.cons_append,PtsAt]at h;obtain⟨d1,d2,rfl,a1,a2⟩:=h;obtain⟨c1,c2,c3,rfl,h1,h2⟩:=ptsAt_at pre x post rfl a2;exact⟨d1++c1,c2,c3,by simp[List.append_assoc],by rw[List.length_append,(ptAt_cells a1).1,h1,List.length_cons];omega,h2⟩
structure Parts (lo hi:Nat) (w:World) (A:Option Addr) (n c:Nat) (l:List Pt):Prop where
 len:l.length=n
 cap:n<=c
 mem: ∃cs,SlZ lo hi w 4 A n c cs/\PtsAt lo hi w l cs
theorem zone_below {lo:Nat}{w w':World}(hb:Below w.heap.size w w'):Zone lo w.heap.size w w':=fun k _ hk=>hb.block k hk
theorem Parts.keep {lo hi lo' hi':Nat}{w w':World}{A:Option Addr}{n c:Nat}{l:List Pt}(h:Parts lo hi w A n c l)(hz:Zone lo hi w w')(h1:lo'<=lo)(h2:hi<=hi'):Parts lo' hi' w' A n c l:=by
 obtain⟨cs,a,b⟩:=h.mem;exact⟨h.len,h.cap,cs,a.keep hz h1 h2,PtsAt.keep hz h1 h2 l cs b⟩
theorem Parts.under {lo:Nat}{w w':World}{A:Option Addr}{n c:Nat}{l:List Pt}(h:Parts lo w.heap.size w A n c l)(hb:Below w.heap.size w w'):Parts lo w'.heap.size w' A n c l:=
 h.keep (zone_below hb) (Nat.le_refl _) hb.size
theorem Parts.beside {lo:Nat}{w:World}{A:Option Addr}{n c:Nat}{l:List Pt}(h:Parts lo w.heap.size w A n c l)(o:Obj):Parts lo (w.alloc o).heap.size (w.alloc o) A n c l:=
 h.under ((Below.refl _ _).alloc (Nat.le_refl _) o)
theorem Parts.lower {lo lo' hi:Nat}{w:World}{A:Option Addr}{n c:Nat}{l:List Pt}(h:Parts lo hi w A n c l)(h1:lo'<=lo):Parts lo' hi w A n c l:=
 h.keep (fun _ _ _=>rfl) h1 (Nat.le_refl _)
theorem Parts.addr {lo hi:Nat}{w:World}{A:Option Addr}{n c:Nat}{l:List Pt}(h:Parts lo hi w A n c l)(hn:0<n): ∃a,A=some a:=by
 obtain⟨cs,hz,_⟩:=h.mem
 cases A with
 |none=>have:=(hz.sl.2.1 rfl).1;omega
 |some a0=>exact⟨a0,rfl⟩
theorem own_cap {w:World}{base:Nat}{e:TypeId}{size n c:Nat}{A:Option Addr}{xs:List Value}(h:w.ownsRow base e size (.slice A n c) n xs):n<=c:=by
 rcases h.2 with⟨e1,e2⟩|⟨g,cap,cur,e1,_,_,e2,_⟩
 ·omega
 ·injection e1 with _ _ e3;omega
theorem slz_own {w:World}{base:Nat}{e:TypeId}{size n c:Nat}{A:Option Addr}{xs:List Value}(h:w.ownsRow base e size (.slice A n c) n xs):SlZ base w.heap.size w size A n c xs:=by
 refine⟨Sl.of_own h,fun a ha=>?_⟩;subst ha;exact h.lt a.block rfl
def plainPts (vs:List Nat):List Pt:=vs.map fun v=> .mk v 3 []
def plainCells (vs:List Nat):List Value:=vs.flatMap fun(v:Nat)=>[.int .i64 (v:Int),.bool false,.slice none 0 0,.slice none 0 0]
theorem slz_nil (lo hi:Nat)(w:World)(size:Nat):SlZ lo hi w size none 0 0 []:=⟨sl_nil _ _,fun _ h=>by cases h⟩
theorem plain_at (lo hi:Nat)(w:World): ∀vs:List Nat,PtsAt lo hi w (plainPts vs) (plainCells vs)
 |[]=>by show PtsAt lo hi w [] [];rw[PtsAt]
 |v::vs=>by
  show PtsAt lo hi w (.mk v 3 []::plainPts vs) ([.int .i64 (v:Int),.bool false,.slice none 0 0,.slice none 0 0]++plainCells vs)
  rw[PtsAt];refine⟨_,_,rfl,?_,plain_at lo hi w vs⟩;rw[PtAt];exact⟨none,0,none,0,0,[],rfl,slz_nil _ _ _ _,rfl,Nat.le_refl _,slz_nil _ _ _ _,by rw[PtsAt]⟩
theorem info_part:(Tryz.prog.info? 284).map (fun i=>(i.zero,i.size,i.bytes))=some (some (.agg #[.int .i64 0,.bool false,.slice none 0 0,.slice none 0 0]),4,64):=by kernel_rfl
theorem plain_snoc (vs:List Nat)(j:Nat)(h:j<vs.length):plainCells (vs.take (j+1))=plainCells (vs.take j)++[.int .i64 (vs.getD j 0:Int),.bool false,.slice none 0 0,.slice none 0 0]:=by
 rw[List.take_succ_eq_append_getElem h,plainCells,List.flatMap_append,<-plainCells];simp[List.getD_eq_getElem?_getD,List.getElem?_eq_getElem h]
theorem plain_any (A:Option Addr)(n c:Nat)(vs:List Nat)(w:World)(hs:Sl w 1 A n c (nats vs))(hn:n<=1000):
  Calls Tryz.prog 245 #[.slice A n c] w fun e w'=> ∃A' c',e= .returned (.slice A' n c')/\w'.ownsRow w.heap.size 284 4 (.slice A' n c') n (plainCells vs)/\Below w.heap.size w w':=by
 have hl:vs.length=n:=by have:=hs.1;simpa[nats]using this
 have HS:=zq hs;have HL:=zq hl;clear hs hl;go_enter Tryz.func245,Tryz.ntmps245;go_wp2;go_loopg [3,8] n (fun kk v i wl=> ∃(j:Nat) (A2:Option Addr) (c2:Nat),j<=n/\n-j<=kk/\i= .int .i64 j/\v= .slice A2 j c2/\wl.ownsRow w.heap.size 284 4 (.slice A2 j c2) j (plainCells (vs.take j))/\Below w.heap.size w wl)
 case atStart=>exact⟨0,none,0,by omega,by omega,rfl,rfl,World.ownsRow_nil _ _ _ _,Below.refl _ _⟩
 obtain⟨j,A2,c2,hj,hjk,rfl,rfl,ho,hb⟩:=hrel;have HO:=zq ho;have HB:=zq hb;clear ho hb;by_cases hlt:j<n
 ·have hjl:j<vs.length:=by have:=HL.out;omega
  have hsn:=plain_snoc vs j hjl;have hv:(nats vs)[j]?=some (.int .i64 (vs.getD j 0:Int)):=by simp[nats,List.getD_eq_getElem?_getD,List.getElem?_eq_getElem hjl]
  obtain⟨b0,o0,rfl,hc0⟩:=(HS.out.under HB.out).at_ hv;generalize vs.getD j 0=v at*;have HSN:=zq hsn;clear hsn hv hjl;have x0:(0:Int)<=j:=by omega
  have x1:(j:Int)<n:=by omega
  have hN:=zq (show([.int .i64 (v:Int),.bool false,.slice none 0 0,.slice none 0 0]:List Value).length=1*4 from rfl);have hO3:=zq (HO.out.alloc (.cells #[.int .i64 (v:Int),.bool false,.slice none 0 0,.slice none 0 0] 284));have hC:Hid (∀i u,([.int .i64 (v:Int),.bool false,.slice none 0 0,.slice none 0 0]:List Value)[i]?=some u->(wr.alloc (.cells #[.int .i64 (v:Int),.bool false,.slice none 0 0,.slice none 0 0] 284)).cell? ((⟨wr.heap.size,0,none⟩:Addr).add i)=some u):=by
   intro i u hu;rw[WideShapes.add_plain,(Has.made wr 284 _).cell,Nat.zero_add]
   simpa using hu
  have h1c:Hid (∀u∈([.int .i64 (v:Int),.bool false,.slice none 0 0,.slice none 0 0]:List Value),u.oneCell'=true):=by
   intro u hu;simp only[List.mem_cons,List.not_mem_nil,or_false]at hu
   rcases hu with rfl|rfl|rfl|rfl<;>rfl
  have hBD:Hid (j+1<=maxLen/\(j+1)*64<=140737488355328/\w.heap.size<=(wr.alloc (.cells #[.int .i64 (v:Int),.bool false,.slice none 0 0,.slice none 0 0] 284)).heap.size):=zq ⟨by unfold maxLen;omega,by omega,by have:=HB.out.size;simp;omega⟩;have hB3:=zq (HB.out.alloc HB.out.size (.cells #[.int .i64 (v:Int),.bool false,.slice none 0 0,.slice none 0 0] 284));go_wp2_with (with_reducible refine wpList_push (o:=⟨some 16,_,_,_,_,_⟩) rfl (.tmp 12) (.tmp 15) 252 rfl w.heap.size 284 (.agg #[.int .i64 0,.bool false,.slice none 0 0,.slice none 0 0]) 4 64 Tryz.underlying252 info_part ?hz (by decide) A2 j c2 (plainCells (vs.take j)) ?hs hO3 ⟨wr.heap.size,0,none⟩ 1 1 [.int .i64 (v:Int),.bool false,.slice none 0 0,.slice none 0 0] ?hx hN hC h1c hBD ?next)
  all_goals try rfl
  intro A4 c4 w4 ho4 hg4;go_wp2;go_roundg (gk-1)
  case measure=>omega
  case rel=>exact⟨j+1,A4,c4,by omega,by omega,by go_num,rfl,by rw[HSN.out];exact ho4.out,below_own hB3.out hBD.out.2.2 hO3.out (Nat.le_refl _) rfl hg4.out⟩
 ·obtain rfl:j=n:=by omega
  have e:vs.take j=vs:=by rw[<-HL.out,List.take_length]
  rw[e]at HO;go_wp2;go_ret
  exact⟨A2,c2,rfl,HO.out,HB.out⟩
end
section
open Go.RowKit
theorem grow_room (w:World)(n:Nat)(h0:0<n)(hn:n<=10000):
  ∃G cs,(∀ty,(Builtin.append_ #[252,3] ty #[.slice none 0 0,.int .i64 (n:Nat)]).run Tryz.prog w= .ok (.slice (some ⟨w.heap.size,0,none⟩) n G) (w.drew.alloc (.cells cs 284)))/\n<=G/\G<=maxLen/\cs.size=G*4:=by
 obtain⟨i,hi,hz,hsize,hby⟩:=info_parts info_part;have hold:(Builtin.firstCells i.size 0 (.slice none 0 0)).run Tryz.prog w.drew= .ok ([]:List Value).toArray w.drew:=run_firstCells_none w.drew i.size 0 0 0;have hb:(0+n)*i.bytes<=140737488355328:=by rw[hby];omega
 have h:=fun ty=>Lib.run_append_grow_zeros (P:=Tryz.prog) w 252 3 ty 284 i _ .i64 .i64 Tryz.underlying252 Tryz.underlying3 hi hz none 0 0 [] hold n h0 (by omega) (by omega) (by omega) (by rw[hby];omega) (growslice_fits (by omega) hb);rw[Nat.zero_add]at h;have hge:=grownCap_ge w n 0 284;refine⟨_,_,h,hge,grownCap_le_maxLen w n 0 _ (by unfold maxLen;omega),?_⟩;simp only[Array.size_append,size_zeroCells];show 0+n*4+_*4=_
 omega
theorem run_cut_none (w:World)(a:Option Addr)(n c k:Nat)(hk:k<=c)(ha:a=none\/ ∃g,a=some ⟨g,0,none⟩):(Instr.sliceAt 252 (.slice a n c) none (some (.int .i64 (k:Nat))) none).run Tryz.prog w= .ok (.slice a k c) w:=by
 obtain⟨i,hi,hz,hsize,hby⟩:=info_parts info_part;have e1:(sizeOf 284).run Tryz.prog w= .ok 4 w:=by simp[sizeOf,run_typeInfo _ hi,hsize]
 have h0:(0:Int)<=(k:Nat):=by omega
 have h1:((k:Nat):Int)<=(c:Nat):=by omega
 have he:Tryz.prog.elem 252=284:=by kernel_rfl
 rcases ha with rfl|⟨g,rfl⟩
 ·simp[Instr.sliceAt,Instr.slice,run_underlying Tryz.underlying252,Instr.sliceBounds,run_sliceBound,h0,h1]
 ·simp[Instr.sliceAt,Instr.slice,run_underlying Tryz.underlying252,Instr.sliceBounds,run_sliceBound,h0,h1,Addr.add]
theorem grow_any (n:Nat)(hn:n<=10000)(w:World):
  Calls Tryz.prog 262 #[.slice none 0 0,.int .i64 (n:Nat)] w fun e w'=> ∃A' c',e= .returned (.slice A' 0 c')/\w'.ownsRow w.heap.size 284 4 (.slice A' 0 c') 0 []/\Below w.heap.size w w':=by
 have h1: ¬((n:Int)<0):=by omega
 by_cases h0:0<n
 ·obtain⟨G,cs,hr,hG,hG2,hsz⟩:=grow_room w n h0 hn
  have hx:(0:Int)<n:=by omega
  have hc1: ∀w,(Instr.sliceAt 252 (.slice none 0 0) none (some (.int .i64 0)) none).run Tryz.prog w= .ok (.slice none 0 0) w:=fun w=>run_cut_none w none 0 0 0 (by omega) (.inl rfl);have hc2: ∀W:World,(Instr.sliceAt 252 (.slice (some ⟨w.heap.size,0,none⟩) n G) none (some (.int .i64 0)) none).run Tryz.prog W= .ok (.slice (some ⟨w.heap.size,0,none⟩) 0 G) W:=fun W=>run_cut_none W _ n G 0 (by omega) (.inr ⟨_,rfl⟩);have HR:=zq hr;have HS:=zq hsz;clear hr hsz;go_enter Tryz.func262,Tryz.ntmps262;go_wp2_with (at_builtin;refine Lib.wpList_append_run _ rfl _ _ _ _ rfl _ _ rfl rfl _ _ (HR.out _) ?_);go_wp2;go_ret
  refine⟨_,G,rfl,⟨rfl,.inr ⟨w.heap.size,G,cs,rfl,Nat.le_refl _,?_,by omega,hG2,HS.out,by simp⟩⟩,(below_draws (Below.refl _ _) 1).alloc (Nat.le_refl _) _⟩;exact heap_alloc_new w.drew _
 ·obtain rfl:n=0:=by omega
  go_enter Tryz.func262,Tryz.ntmps262;go_wp2;go_ret
  exact⟨none,0,rfl,World.ownsRow_nil _ _ _ _,Below.refl _ _⟩
abbrev SlT:=Option Addr×Nat×Nat×List Value
def sls (L:List SlT):List Value:=L.map fun x=> .slice x.1 x.2.1 x.2.2.1
def cntOf (L:List SlT):Nat:=(L.map fun x=>x.2.1).sum
def cellsOf (L:List SlT):List Value:=L.flatMap fun x=>x.2.2.2
theorem cnt_step (L:List SlT)(j:Nat)(h:j<L.length):cntOf (L.take (j+1))=cntOf (L.take j)+L[j].2.1:=by
 rw[List.take_succ_eq_append_getElem h,cntOf,List.map_append,List.sum_append];simp[cntOf,-List.map_take]
theorem cells_step (L:List SlT)(j:Nat)(h:j<L.length):cellsOf (L.take (j+1))=cellsOf (L.take j)++L[j].2.2.2:=by
 rw[List.take_succ_eq_append_getElem h,cellsOf,List.flatMap_append];simp[cellsOf]
theorem cnt_le (L:List SlT)(h: ∀x∈L,x.2.1<=100):cntOf L<=100*L.length:=by
 induction L with
 |nil=>simp[cntOf]
 |cons x l ih=>
  have h1:=h x (by simp);have h2:=ih (fun y hy=>h y (by simp[hy]));have e:cntOf (x::l)=x.2.1+cntOf l:=by simp[cntOf]
  rw[e,List.length_cons];omega
theorem concat_any (A:Option Addr)(n c:Nat)(L:List SlT)(w:World)(hs:Sl w 1 A n c (sls L))(hn:n<=100)(hx: ∀x∈L,Sl w 4 x.1 x.2.1 x.2.2.1 x.2.2.2/\(∀u∈x.2.2.2,u.oneCell'=true)/\x.2.1<=100):
  Calls Tryz.prog 244 #[.slice A n c] w fun e w'=> ∃A' c',e= .returned (.slice A' (cntOf L) c')/\w'.ownsRow w.heap.size 284 4 (.slice A' (cntOf L) c') (cntOf L) (cellsOf L)/\Below w.heap.size w w':=by
 have hl:L.length=n:=by have:=hs.1;simpa[sls]using this
 have hat: ∀j,j<n-> ∀W,Below w.heap.size w W-> ∃x,∃hj:j<L.length,x=L[j]/\ ∃b o,A=some ⟨b,o,none⟩/\W.cell? ⟨b,o+j,none⟩=some (.slice x.1 x.2.1 x.2.2.1)/\Sl W 4 x.1 x.2.1 x.2.2.1 x.2.2.2/\(∀u∈x.2.2.2,u.oneCell'=true)/\x.2.1<=100:=by
  intro j hj W hW;have hjl:j<L.length:=by omega
  obtain⟨b,o,e1,e2⟩:=(hs.under hW).at_ (j:=j) (u:= .slice L[j].1 L[j].2.1 L[j].2.2.1) (by simp[sls,List.getElem?_eq_getElem hjl]);obtain⟨h1,h2,h3⟩:=hx L[j] (List.getElem_mem hjl);exact⟨L[j],hjl,rfl,b,o,e1,e2,h1.under hW,h2,h3⟩
 have hcl:=cnt_le L (fun x h=>(hx x h).2.2);have hct: ∀j,j<=n->cntOf (L.take j)<=10000:=fun j hj=>by
  have:=cnt_le (L.take j) (fun x h=>(hx x (List.mem_of_mem_take h)).2.2);rw[List.length_take]at this;omega
 have HAT:=zq hat;have HL:=zq hl;have HCT:=zq hct;have HCL:Hid (cntOf L<=10000):=zq (by omega);clear hs hx hat hl hct hcl;go_enter Tryz.func244,Tryz.ntmps244;go_wp2;go_loop [3,11] (fun v i=> ∃(j t:Nat),j<=n/\i= .int .i64 j/\v= .int .i64 t/\cntOf (L.take j)=t) (fun _ i=>n-(intOf i).toNat)
 case atStart=>exact⟨0,0,by omega,rfl,rfl,rfl⟩
 obtain⟨j,t,hj,rfl,rfl,ht⟩:=hrel;by_cases hlt:j<n
 ·obtain⟨x,hjl,hxe,b,o,rfl,hc,_,_,hx3⟩:=HAT.out j hlt w (Below.refl _ _)
  have hst:=cnt_step L j hjl;have hcb:=HCT.out (j+1) (by omega);rw[ht,<-hxe]at hst;rw[hst]at hcb;obtain⟨xa,xm,xc,xs⟩:=x;simp only at hc hx3 hst hcb;have HST:=zq hst;clear hst ht hxe;have x0:(0:Int)<=j:=by omega
  have x1:(j:Int)<n:=by omega
  have x2: ¬((t:Int)+(xm:Int)<0):=by omega
  go_wp2;go_round
  case rel=>exact⟨j+1,t+xm,by omega,by go_num,by go_num,HST.out⟩
  case measure=>simp[intOf];omega
 ·obtain rfl:j=n:=by omega
  have e:L.take j=L:=by rw[<-HL.out,List.take_length]
  rw[e]at ht;have HTT:=zq ht;have HG:=zq (grow_any t (by rw[<-ht];exact HCL.out) w);clear ht e;go_wp2_with fail;refine HG.out.mono ?_;rintro e w1 ⟨A1,c1,rfl,ho1,hb1⟩;have HO1:=zq ho1;have HB1:=zq hb1;clear ho1 hb1 HG;go_wp2;go_loopg [6,27] j (fun kk v i wl=> ∃(q t2:Nat) (A2:Option Addr) (c2:Nat),q<=j/\j-q<=kk/\i= .int .i64 q/\v= .slice A2 t2 c2/\cntOf (L.take q)=t2/\wl.ownsRow w.heap.size 284 4 (.slice A2 t2 c2) t2 (cellsOf (L.take q))/\Below w.heap.size w wl)
  case atStart=>exact⟨0,0,A1,c1,by omega,by omega,rfl,rfl,rfl,HO1.out,HB1.out⟩
  obtain⟨q,t2,A2,c2,hq,hqk,rfl,rfl,ht2,ho,hb⟩:=hrel;have HO:=zq ho;have HB:=zq hb;clear ho hb;by_cases hlt2:q<j
  ·obtain⟨x,hjl,hxe,b,o,rfl,hc,hx1,hx2,hx3⟩:=HAT.out q hlt2 wr HB.out
   have hst:=cnt_step L q hjl;have hse:=cells_step L q hjl;have hcb:=HCT.out (q+1) (by omega);rw[ht2,<-hxe]at hst;rw[<-hxe]at hse;rw[hst]at hcb;obtain⟨xa,xm,xc,xs⟩:=x;simp only at hc hx1 hx2 hx3 hst hse hcb;have HST:=zq hst;have HSE:=zq hse;have HX1:=zq hx1;have HX2:=zq hx2;have hBD:Hid (t2+xm<=maxLen/\(t2+xm)*64<=140737488355328/\w.heap.size<=wr.heap.size):=zq ⟨by unfold maxLen;omega,by omega,HB.out.size⟩;clear hst hse ht2 hxe hx1 hx2;have x0:(0:Int)<=q:=by omega
   have x1:(q:Int)<j:=by omega
   go_wp2_with (with_reducible refine wpList_pour (o:=⟨some 33,_,_,_,_,_⟩) rfl (.tmp 31) (.tmp 32) 252 rfl w.heap.size 284 (.agg #[.int .i64 0,.bool false,.slice none 0 0,.slice none 0 0]) 4 64 Tryz.underlying252 info_part ?hz (by decide) A2 t2 c2 (cellsOf (L.take q)) ?hs HO xa xm xc xs ?hx HX1 HX2 hBD ?next)
   all_goals try rfl
   intro A4 c4 w4 ho4 hg4;go_wp2;go_roundg (gk-1)
   case measure=>omega
   case rel=>exact⟨q+1,t2+xm,A4,c4,by omega,by omega,by go_num,rfl,HST.out,by rw[HSE.out];exact ho4.out,below_own HB.out hBD.out.2.2 HO.out (Nat.le_refl _) rfl hg4.out⟩
  ·obtain rfl:q=j:=by omega
   have e:L.take q=L:=by rw[<-HL.out,List.take_length]
   rw[e]at HO ht2;subst ht2;go_wp2;go_ret
   exact⟨A2,c2,rfl,HO.out,HB.out⟩
end
section
open Go.RowKit
theorem slz_made (lo:Nat)(w:World)(t:TypeId)(vs:List Value)(n:Nat)(hn:n=vs.length)(hlo:lo<=w.heap.size):SlZ lo (w.alloc (.cells vs.toArray t)).heap.size (w.alloc (.cells vs.toArray t)) 1 (some ⟨w.heap.size,0,none⟩) n n vs:=by
 refine⟨⟨by omega,fun h=>(by cases h),fun ad ha j u hu=>?_⟩,fun a ha=>?_⟩
 ·cases ha
  rw[WideShapes.add_plain,(Has.made w t vs.toArray).cell,Nat.zero_add]
  simpa using hu
 ·cases ha
  simp;omega
theorem plain_parts (lo:Nat)(A:Option Addr)(n c:Nat)(vs:List Nat)(w:World)(hs:Sl w 1 A n c (nats vs))(hn:n<=100)(hlo:lo<=w.heap.size):
  Calls Tryz.prog 245 #[.slice A n c] w fun e w'=> ∃A' c',e= .returned (.slice A' n c')/\Parts lo w'.heap.size w' A' n c' (plainPts vs)/\Below w.heap.size w w':=by
 have hl:vs.length=n:=by have:=hs.1;simpa[nats]using this
 refine(plain_any A n c vs w hs (by omega)).mono ?_;rintro e w' ⟨A',c',rfl,ho,hb⟩;exact⟨A',c',rfl,Parts.lower ⟨by simp[plainPts,hl],own_cap ho,_,slz_own ho,plain_at _ _ _ vs⟩ hlo,hb⟩
theorem plain_lit (lo:Nat)(vs:List Nat)(w:World)(hn:vs.length<=100)(hlo:lo<=w.heap.size):
  Calls Tryz.prog 245 #[.slice (some ⟨w.heap.size,0,none⟩) vs.length vs.length] (w.alloc (.cells (nats vs).toArray 3)) fun e w'=> ∃A' c',e= .returned (.slice A' vs.length c')/\Parts lo w'.heap.size w' A' vs.length c' (plainPts vs)/\Below w.heap.size w w':=by
 refine(plain_parts lo _ vs.length _ vs _ (slz_made lo w _ (nats vs) vs.length (by simp[nats]) hlo).sl hn (by simp;omega)).mono ?_;rintro e w' ⟨A',c',rfl,hp,hb⟩;exact⟨A',c',rfl,hp,((Below.refl _ w).alloc (Nat.le_refl _) _).trans (hb.mono (by simp))⟩
abbrev PlT:=Option Addr×Nat×Nat×List Pt
def pls (L:List PlT):List Value:=L.map fun x=> .slice x.1 x.2.1 x.2.2.1
def ptsOf (L:List PlT):List Pt:=L.flatMap fun x=>x.2.2.2
def numOf (L:List PlT):Nat:=(L.map fun x=>x.2.1).sum
theorem lists_cells {lo hi:Nat}{w:World}: ∀(L:List PlT),(∀x∈L,Parts lo hi w x.1 x.2.1 x.2.2.1 x.2.2.2/\x.2.1<=100)-> ∃K:List SlT,sls K=pls L/\cntOf K=numOf L/\PtsAt lo hi w (ptsOf L) (cellsOf K)/\ ∀x∈K,Sl w 4 x.1 x.2.1 x.2.2.1 x.2.2.2/\(∀u∈x.2.2.2,u.oneCell'=true)/\x.2.1<=100
 |[],_=>⟨[],rfl,rfl,by show PtsAt lo hi w [] [];rw[PtsAt],fun x h=>by cases h⟩
 |y::L,h=>by
  obtain⟨K,h1,h2,h3,h4⟩:=lists_cells L (fun x hx=>h x (by simp[hx]));obtain⟨hp,hn⟩:=h y (by simp);obtain⟨cs,hz,ha⟩:=hp.mem;refine⟨(y.1,y.2.1,y.2.2.1,cs)::K,?_,?_,?_,?_⟩
  ·show _::sls K=_::pls L;rw[h1]
  ·have e1:cntOf ((y.1,y.2.1,y.2.2.1,cs)::K)=y.2.1+cntOf K:=by simp[cntOf]
   have e2:numOf (y::L)=y.2.1+numOf L:=by simp[numOf]
   rw[e1,e2,h2]
  ·exact ptsAt_append ha h3
  ·intro x hx
   rcases List.mem_cons.1 hx with rfl|hx
   ·exact⟨hz.sl,(ptsAt_cells ha).2,hn⟩
   ·exact h4 x hx
theorem num_len {lo hi:Nat}{w:World}: ∀(L:List PlT),(∀x∈L,Parts lo hi w x.1 x.2.1 x.2.2.1 x.2.2.2/\x.2.1<=100)->(ptsOf L).length=numOf L
 |[],_=>rfl
 |y::L,h=>by
  have ih:=num_len L (fun x hx=>h x (by simp[hx]));have h1:=(h y (by simp)).1.len;have e1:ptsOf (y::L)=y.2.2.2++ptsOf L:=rfl;have e2:numOf (y::L)=y.2.1+numOf L:=by simp[numOf]
  rw[e1,e2,List.length_append,ih,h1]
theorem concat_parts (lo:Nat)(A:Option Addr)(n c:Nat)(L:List PlT)(w:World)(hs:Sl w 1 A n c (pls L))(hn:n<=100)(hx: ∀x∈L,Parts lo w.heap.size w x.1 x.2.1 x.2.2.1 x.2.2.2/\x.2.1<=100)(hlo:lo<=w.heap.size):
  Calls Tryz.prog 244 #[.slice A n c] w fun e w'=> ∃A' c',e= .returned (.slice A' (numOf L) c')/\Parts lo w'.heap.size w' A' (numOf L) c' (ptsOf L)/\Below w.heap.size w w':=by
 obtain⟨K,h1,h2,h3,h4⟩:=lists_cells L hx;have hl:=num_len L hx;refine(concat_any A n c K w (by rw[h1];exact hs) hn h4).mono ?_;rintro e w' ⟨A',c',rfl,ho,hb⟩;rw[h2]at ho;refine⟨A',c',by rw[h2],⟨hl,own_cap ho,_,(slz_own ho).keep (fun _ _ _=>rfl) hlo (Nat.le_refl _),PtsAt.keep (zone_below hb) (Nat.le_refl _) hb.size _ _ h3⟩,hb⟩
theorem concat_lit (lo:Nat)(L:List PlT)(w:World)(hn:L.length<=100)(hx: ∀x∈L,Parts lo w.heap.size w x.1 x.2.1 x.2.2.1 x.2.2.2/\x.2.1<=100)(hlo:lo<=w.heap.size):
  Calls Tryz.prog 244 #[.slice (some ⟨w.heap.size,0,none⟩) L.length L.length] (w.alloc (.cells (pls L).toArray 252)) fun e w'=> ∃A' c',e= .returned (.slice A' (numOf L) c')/\Parts lo w'.heap.size w' A' (numOf L) c' (ptsOf L)/\Below w.heap.size w w':=by
 refine(concat_parts lo _ L.length _ L _ (slz_made lo w _ (pls L) L.length (by simp[pls]) hlo).sl hn (fun x h=>⟨(hx x h).1.beside _,(hx x h).2⟩) (by simp;omega)).mono ?_;rintro e w' ⟨A',c',rfl,hp,hb⟩;exact⟨A',c',rfl,hp,((Below.refl _ w).alloc (Nat.le_refl _) _).trans (hb.mono (by simp))⟩
theorem parts_made {lo:Nat}{w:World}{v k:Nat}{b:List Pt}{Ao:Option Addr}{co:Nat}{Af:Option Addr}{nf cf:Nat}(ho:SlZ lo w.heap.size w 1 Ao (onlyOf k).length co (nats (onlyOf k)))(hf:Parts lo w.heap.size w Af nf cf b)(hlo:lo<=w.heap.size):
  Parts lo (w.alloc (.cells #[.int .i64 (v:Int),.bool (decide (k=0)),.slice Ao (onlyOf k).length co,.slice Af nf cf] 284)).heap.size (w.alloc (.cells #[.int .i64 (v:Int),.bool (decide (k=0)),.slice Ao (onlyOf k).length co,.slice Af nf cf] 284)) (some ⟨w.heap.size,0,none⟩) 1 1 [.mk v k b]:=by
 have hz:Zone lo w.heap.size w (w.alloc (.cells #[.int .i64 (v:Int),.bool (decide (k=0)),.slice Ao (onlyOf k).length co,.slice Af nf cf] 284)):=zone_below (bA);have hs:w.heap.size<=(w.alloc (.cells #[.int .i64 (v:Int),.bool (decide (k=0)),.slice Ao (onlyOf k).length co,.slice Af nf cf] 284)).heap.size:=by simp
 obtain⟨fc,f1,f2⟩:=hf.mem;refine⟨rfl,Nat.le_refl _,[.int .i64 (v:Int),.bool (decide (k=0)),.slice Ao (onlyOf k).length co,.slice Af nf cf],⟨⟨rfl,fun h=>(by cases h),fun ad ha j u hu=>?_⟩,fun a ha=>?_⟩,?_⟩
 ·cases ha
  rw[WideShapes.add_plain,(Has.made w 284 _).cell,Nat.zero_add]
  simpa using hu
 ·cases ha
  simp;omega
 ·rw[PtsAt]
  refine⟨_,[],(List.append_nil _).symm,?_,by rw[PtsAt]⟩;rw[PtAt];exact⟨Ao,co,Af,nf,cf,fc,rfl,ho.keep hz (Nat.le_refl _) hs,hf.len,hf.cap,f1.keep hz (Nat.le_refl _) hs,PtsAt.keep hz (Nat.le_refl _) hs _ _ f2⟩
theorem iter_parts (lo:Nat)(A:Option Addr)(n c:Nat)(L:List PlT)(w:World)(hs:Sl w 1 A n c (pls L))(hn:n<=100)(hx: ∀x∈L,Parts lo w.heap.size w x.1 x.2.1 x.2.2.1 x.2.2.2/\x.2.1<=100)(hlo:lo<=w.heap.size):
  Calls Tryz.prog 246 #[.slice A n c] w fun e w'=> ∃A' c',e= .returned (.slice A' 1 c')/\Parts lo w'.heap.size w' A' 1 c' [.mk 27 0 (ptsOf L)]/\Below w.heap.size w w':=by
 have HC:=zq (concat_parts lo A n c L w hs hn hx hlo);clear hs hx;go_enter Tryz.func246,Tryz.ntmps246;go_wp2_with fail;refine HC.out.mono ?_;rintro e w1 ⟨A1,c1,rfl,hp1,hb1⟩;have hm:=parts_made (v:=27) (k:=0) (slz_nil lo w1.heap.size w1 1) hp1 (Nat.le_trans hlo hb1.size);have HM:=zq hm;have HB:=zq (hb1.alloc hb1.size (.cells #[.int .i64 27,.bool true,.slice none 0 0,.slice A1 (numOf L) c1] 284));clear hp1 hb1 hm HC;go_wp2;go_ret
 exact⟨_,1,rfl,HM.out,HB.out⟩
theorem iter_lit (lo:Nat)(L:List PlT)(w:World)(hn:L.length<=100)(hx: ∀x∈L,Parts lo w.heap.size w x.1 x.2.1 x.2.2.1 x.2.2.2/\x.2.1<=100)(hlo:lo<=w.heap.size):
  Calls Tryz.prog 246 #[.slice (some ⟨w.heap.size,0,none⟩) L.length L.length] (w.alloc (.cells (pls L).toArray 252)) fun e w'=> ∃A' c',e= .returned (.slice A' 1 c')/\Parts lo w'.heap.size w' A' 1 c' [.mk 27 0 (ptsOf L)]/\Below w.heap.size w w':=by
 refine(iter_parts lo _ L.length _ L _ (slz_made lo w _ (pls L) L.length (by simp[pls]) hlo).sl hn (fun x h=>⟨(hx x h).1.beside _,(hx x h).2⟩) (by simp;omega)).mono ?_;rintro e w' ⟨A',c',rfl,hp,hb⟩;exact⟨A',c',rfl,hp,((Below.refl _ w).alloc (Nat.le_refl _) _).trans (hb.mono (by simp))⟩
theorem ifAny_parts (lo v k:Nat)(Ao:Option Addr)(co:Nat)(A:Option Addr)(n c:Nat)(vs:List Nat)(w:World)(hk:k≠0)(ho:SlZ lo w.heap.size w 1 Ao (onlyOf k).length co (nats (onlyOf k)))(hs:Sl w 1 A n c (nats vs))(hn:n<=100)(hlo:lo<=w.heap.size):
  Calls Tryz.prog 261 #[.int .i64 (v:Int),.slice Ao (onlyOf k).length co,.slice A n c] w fun e w'=> ∃A' c',e= .returned (.slice A' 1 c')/\Parts lo w'.heap.size w' A' 1 c' [.mk v k (plainPts vs)]/\Below w.heap.size w w':=by
 have HC:=zq (plain_parts lo A n c vs w hs hn hlo);have HO:=zq ho;have HK:=zq hk;obtain⟨m,hm⟩:=geZ ((onlyOf k).length);rw[hm];have HM:=zq hm;clear hs ho hk hm;go_enter Tryz.func261,Tryz.ntmps261;go_wp2_with fail;refine HC.out.mono ?_;rintro e w1 ⟨A1,c1,rfl,hp1,hb1⟩;have hz:=HO.out.keep (zone_below hb1) (Nat.le_refl _) hb1.size;have hm:=parts_made (v:=v) (k:=k) hz hp1 (Nat.le_trans hlo hb1.size);rw[decide_eq_false HK.out,HM.out]at hm;have HM:=zq hm;have HB:=zq (hb1.alloc hb1.size (.cells #[.int .i64 (v:Int),.bool false,.slice Ao m co,.slice A1 n c1] 284));clear hp1 hb1 hm hz HC;go_wp2;go_ret
 exact⟨_,1,rfl,HM.out,HB.out⟩
theorem ifOne_lit (lo v:Nat)(vs:List Nat)(w:World)(hn:vs.length<=100)(hlo:lo<=w.heap.size):
  Calls Tryz.prog 248 #[.int .i64 (v:Int),.slice (some ⟨w.heap.size,0,none⟩) vs.length vs.length] (w.alloc (.cells (nats vs).toArray 3)) fun e w'=> ∃A' c',e= .returned (.slice A' 1 c')/\Parts lo w'.heap.size w' A' 1 c' [.mk v 1 (plainPts vs)]/\Below w.heap.size w w':=by
 have h1:=slz_made lo w 3 (nats vs) vs.length (by simp[nats]) hlo;have hb:Below w.heap.size w (w.alloc (.cells (nats vs).toArray 3)):=(Below.refl _ w).alloc (Nat.le_refl _) _;have hlo1:lo<=(w.alloc (.cells (nats vs).toArray 3)).heap.size:=Nat.le_trans hlo hb.size;generalize w.alloc (.cells (nats vs).toArray 3)=w1 at*;have h2:=slz_made lo w1 3 [.int .i64 1] 1 rfl hlo1;have hb2:=hb.alloc hb.size (.cells #[.int .i64 1] 3);have h3:Sl (w1.alloc (.cells #[.int .i64 1] 3)) 1 (some ⟨w.heap.size,0,none⟩) vs.length vs.length (nats vs):=h1.sl.under (bA);have HC:=zq (ifAny_parts lo v 1 (some ⟨w1.heap.size,0,none⟩) 1 _ vs.length vs.length vs (w1.alloc (.cells #[.int .i64 1] 3)) (by decide) h2 h3 hn (by simp;omega));have HB:=zq hb2;clear h1 h2 h3 hb hb2;go_enter Tryz.func248,Tryz.ntmps248;go_wp2_with fail;refine HC.out.mono ?_;rintro e w2 ⟨A1,c1,rfl,hp1,hb1⟩;have HP:=zq hp1;have HB2:=tB HB hb1;clear hp1 hb1 HC;go_wp2;go_ret
 exact⟨A1,c1,rfl,HP.out,HB2.out⟩
end
section
open Go.RowKit
theorem may_var (v n:Int)(w:World)(hw:Wd w):
  Calls Tryz.prog 250 #[.int .i64 v,.int .i64 n] w fun e w'=>e= .returned (.bool (mayOf v n))/\w=w':=by
 by_cases h:0<=v/\v<96
 ·by_cases hn:0<=n
  ·have hm:mayOf v n=(decide (n<=mostOf v)||(decide (specialOf v≠0) &&decide (specialOf v<=n) &&decide (n<=greatestOf v))):=by simp[mayOf,h,hn]
   rw[hm];clear hm;have c1:=most_any v w hw;have c2:=greatest_any v w hw;have c3:=special_any v w;generalize mostOf v=M at*;generalize greatestOf v=G at*;generalize specialOf v=S at*;obtain⟨h0,h1⟩:=h;have C1:=zq c1;have C2:=zq c2;have C3:=zq c3;clear c1 c2 c3 hw;by_cases hM:n<=M
   ·rw[decide_eq_true hM,Bool.true_or]
    go_enter Tryz.func250,Tryz.ntmps250;go_wp2_with fail;refine(exists_yes v h0 h1 w).mono ?_;rintro e w' ⟨rfl,rfl⟩;go_wp2_with fail;refine C3.out.mono ?_;rintro e w' ⟨rfl,rfl⟩;go_wp2_with fail;refine C1.out.mono ?_;rintro e w' ⟨rfl,rfl⟩;go_wp2;go_ret
    exact⟨rfl,rfl⟩
   ·rw[decide_eq_false hM,Bool.false_or]
    by_cases hS:S≠0/\S<=n
    ·have e1:(decide (S≠0) &&decide (S<=n) &&decide (n<=G))=decide (n<=G):=by simp[hS]
     rw[e1];clear e1;obtain⟨hS0,hSn⟩:=hS;have hS1:(S !=0)=true:=by simp[hS0]
     obtain⟨b,hb⟩:=geZ (decide (n<=G));rw[hb];go_enter Tryz.func250,Tryz.ntmps250;go_wp2_with fail;refine(exists_yes v h0 h1 w).mono ?_;rintro e w' ⟨rfl,rfl⟩;go_wp2_with fail;refine C3.out.mono ?_;rintro e w' ⟨rfl,rfl⟩;go_wp2_with fail;refine C1.out.mono ?_;rintro e w' ⟨rfl,rfl⟩;go_wp2_with fail;refine C2.out.mono ?_;rintro e w' ⟨rfl,rfl⟩
     cases b
     ·have hG: ¬n<=G:=of_decide_eq_false hb
      go_wp2;go_ret
      exact⟨by show Ending.returned (.bool (decide (n<=M)))=_;rw[decide_eq_false (by omega)],rfl⟩
     ·have hG:n<=G:=of_decide_eq_true hb
      go_wp2;go_ret
      exact⟨rfl,rfl⟩
    ·have e1:(decide (S≠0) &&decide (S<=n) &&decide (n<=G))=false:=by
      by_cases h2:S=0
      ·simp[h2]
      ·have: ¬S<=n:=fun h3=>hS ⟨h2,h3⟩
       simp[this]
     rw[e1];clear e1;have HS:=zq hS;clear hS;go_enter Tryz.func250,Tryz.ntmps250;go_wp2_with fail;refine(exists_yes v h0 h1 w).mono ?_;rintro e w' ⟨rfl,rfl⟩;go_wp2_with fail;refine C3.out.mono ?_;rintro e w' ⟨rfl,rfl⟩;go_wp2_with fail;refine C1.out.mono ?_;rintro e w' ⟨rfl,rfl⟩;by_cases h2:S=0
     ·have hS1:(S !=0)=false:=by simp[h2]
      clear HS;go_wp2;go_ret
      exact⟨by show Ending.returned (.bool (decide (n<=M)))=_;rw[decide_eq_false (by omega)],rfl⟩
     ·have hS1:(S !=0)=true:=by simp[h2]
      have hS2: ¬S<=n:=fun h3=>HS.out ⟨h2,h3⟩;clear HS;go_wp2;go_ret
      exact⟨by show Ending.returned (.bool (decide (n<=M)))=_;rw[decide_eq_false (by omega)],rfl⟩
  ·have hm:mayOf v n=false:=by simp[mayOf,hn]
   rw[hm];clear hm hw;obtain⟨h0,h1⟩:=h;go_enter Tryz.func250,Tryz.ntmps250;go_wp2_with fail;refine(exists_yes v h0 h1 w).mono ?_;rintro e w' ⟨rfl,rfl⟩;go_wp2;go_ret
   exact⟨rfl,rfl⟩
 ·have hm:mayOf v n=false:=by simp[mayOf,h]
  rw[hm];have H:=zq h;clear hm hw h;go_enter Tryz.func250,Tryz.ntmps250;go_wp2_with fail;refine(exists_no v H.out w).mono ?_;rintro e w' ⟨rfl,rfl⟩;go_wp2;go_ret
  exact⟨rfl,rfl⟩
end
section
open Go.RowKit
open Go.Great
def lineT:Tp3:=⟨[100,200,300],[⟨(0,1),(1,0)⟩,⟨(1,1),(2,0)⟩],[⟨7,0,10⟩,⟨8,1,20⟩,⟨9,2,30⟩],[⟨1,[⟨0,false⟩,⟨1,false⟩],0,30⟩,⟨2,[⟨1,false⟩,⟨2,false⟩],50,20⟩]⟩
theorem line_light:lightT lineT=true:=by decide+kernel
theorem line_any (w:World):
  Calls Tryz.prog 38 #[] w fun e w'=> ∃a:TpA,e= .returned (.agg (tpC lineT a))/\TopR w' lineT a/\lineT.joints.length<=a.cj/\Below w.heap.size w w':=by
 obtain⟨wa,hwa⟩:=geZ (((((((w.alloc (.cells #[.slice none 0 0,.slice none 0 0,.slice none 0 0,.slice none 0 0] 27)).alloc (.cells #[.int .i64 100,.int .i64 200,.int .i64 300] 3)).alloc (.cells #[.int .i64 0,.int .i64 1,.int .i64 1,.int .i64 0,.int .i64 1,.int .i64 1,.int .i64 2,.int .i64 0] 149)).alloc (.cells #[.int .i64 7,.int .i64 0,.int .i64 10,.int .i64 8,.int .i64 1,.int .i64 20,.int .i64 9,.int .i64 2,.int .i64 30] 151)).alloc (.cells #[.int .i64 0,.bool false,.int .i64 1,.bool false] 30)).alloc (.cells #[.int .i64 1,.bool false,.int .i64 2,.bool false] 30)).alloc (.cells #[.int .i64 1,.slice (some ⟨w.heap.size+1+1+1+1,0,none⟩) 2 2,.int .i64 0,.int .i64 30,.int .i64 2,.slice (some ⟨w.heap.size+1+1+1+1+1,0,none⟩) 2 2,.int .i64 50,.int .i64 20] 75));have hbwa:Below w.heap.size w wa:=by rw[<-hwa];exact((((((bA).alloc (by simp) _).alloc (by simp;omega) _).alloc (by simp;omega) _).alloc (by simp;omega) _).alloc (by simp;omega) _).alloc (by simp;omega) _
 have h0:Has wa (w.heap.size) 27 #[.slice none 0 0,.slice none 0 0,.slice none 0 0,.slice none 0 0]:=by rw[<-hwa];exact(((((((Has.made _ _ _).beside _).beside _).beside _).beside _).beside _).beside _)
 have h1:Has wa (w.heap.size+1) 3 #[.int .i64 100,.int .i64 200,.int .i64 300]:=by rw[<-hwa];exact((((((has_at11 (by simp)).beside _).beside _).beside _).beside _).beside _)
 have h2:Has wa (w.heap.size+1+1) 149 #[.int .i64 0,.int .i64 1,.int .i64 1,.int .i64 0,.int .i64 1,.int .i64 1,.int .i64 2,.int .i64 0]:=by rw[<-hwa];exact(((((has_at11 (by simp)).beside _).beside _).beside _).beside _)
 have h3:Has wa (w.heap.size+1+1+1) 151 #[.int .i64 7,.int .i64 0,.int .i64 10,.int .i64 8,.int .i64 1,.int .i64 20,.int .i64 9,.int .i64 2,.int .i64 30]:=by rw[<-hwa];exact((((has_at11 (by simp)).beside _).beside _).beside _)
 have h4:Has wa (w.heap.size+1+1+1+1) 30 #[.int .i64 0,.bool false,.int .i64 1,.bool false]:=by rw[<-hwa];exact(((has_at11 (by simp)).beside _).beside _)
 have h5:Has wa (w.heap.size+1+1+1+1+1) 30 #[.int .i64 1,.bool false,.int .i64 2,.bool false]:=by rw[<-hwa];exact((has_at11 (by simp)).beside _)
 have h6:Has wa (w.heap.size+1+1+1+1+1+1) 75 #[.int .i64 1,.slice (some ⟨w.heap.size+1+1+1+1,0,none⟩) 2 2,.int .i64 0,.int .i64 30,.int .i64 2,.slice (some ⟨w.heap.size+1+1+1+1+1,0,none⟩) 2 2,.int .i64 50,.int .i64 20]:=by rw[<-hwa];exact(has_at11 (by simp))
 have HWA:=zq hwa;have HBWA:=zq hbwa;have HR:=zq (has_row11 h0 #[.slice (some ⟨w.heap.size+1,0,none⟩) 3 3,.slice (some ⟨w.heap.size+1+1,0,none⟩) 2 2,.slice (some ⟨w.heap.size+1+1+1,0,none⟩) 3 3,.slice (some ⟨w.heap.size+1+1+1+1+1+1,0,none⟩) 2 2]);have HBF:=zq (below_row (g:=w.heap.size) hbwa (Nat.le_refl _) #[.slice (some ⟨w.heap.size+1,0,none⟩) 3 3,.slice (some ⟨w.heap.size+1+1,0,none⟩) 2 2,.slice (some ⟨w.heap.size+1+1+1,0,none⟩) 3 3,.slice (some ⟨w.heap.size+1+1+1+1+1+1,0,none⟩) 2 2]);have k1:=has_rowo11 (g:=w.heap.size) h1 (by omega) #[.slice (some ⟨w.heap.size+1,0,none⟩) 3 3,.slice (some ⟨w.heap.size+1+1,0,none⟩) 2 2,.slice (some ⟨w.heap.size+1+1+1,0,none⟩) 3 3,.slice (some ⟨w.heap.size+1+1+1+1+1+1,0,none⟩) 2 2];have k2:=has_rowo11 (g:=w.heap.size) h2 (by omega) #[.slice (some ⟨w.heap.size+1,0,none⟩) 3 3,.slice (some ⟨w.heap.size+1+1,0,none⟩) 2 2,.slice (some ⟨w.heap.size+1+1+1,0,none⟩) 3 3,.slice (some ⟨w.heap.size+1+1+1+1+1+1,0,none⟩) 2 2];have k3:=has_rowo11 (g:=w.heap.size) h3 (by omega) #[.slice (some ⟨w.heap.size+1,0,none⟩) 3 3,.slice (some ⟨w.heap.size+1+1,0,none⟩) 2 2,.slice (some ⟨w.heap.size+1+1+1,0,none⟩) 3 3,.slice (some ⟨w.heap.size+1+1+1+1+1+1,0,none⟩) 2 2];have k4:=has_rowo11 (g:=w.heap.size) h4 (by omega) #[.slice (some ⟨w.heap.size+1,0,none⟩) 3 3,.slice (some ⟨w.heap.size+1+1,0,none⟩) 2 2,.slice (some ⟨w.heap.size+1+1+1,0,none⟩) 3 3,.slice (some ⟨w.heap.size+1+1+1+1+1+1,0,none⟩) 2 2];have k5:=has_rowo11 (g:=w.heap.size) h5 (by omega) #[.slice (some ⟨w.heap.size+1,0,none⟩) 3 3,.slice (some ⟨w.heap.size+1+1,0,none⟩) 2 2,.slice (some ⟨w.heap.size+1+1+1,0,none⟩) 3 3,.slice (some ⟨w.heap.size+1+1+1+1+1+1,0,none⟩) 2 2];have k6:=has_rowo11 (g:=w.heap.size) h6 (by omega) #[.slice (some ⟨w.heap.size+1,0,none⟩) 3 3,.slice (some ⟨w.heap.size+1+1,0,none⟩) 2 2,.slice (some ⟨w.heap.size+1+1+1,0,none⟩) 3 3,.slice (some ⟨w.heap.size+1+1+1+1+1+1,0,none⟩) 2 2];obtain⟨wz,hwz⟩:=geZ (wa.setRow w.heap.size #[.slice (some ⟨w.heap.size+1,0,none⟩) 3 3,.slice (some ⟨w.heap.size+1+1,0,none⟩) 2 2,.slice (some ⟨w.heap.size+1+1+1,0,none⟩) 3 3,.slice (some ⟨w.heap.size+1+1+1+1+1+1,0,none⟩) 2 2]);rw[hwz]at HR HBF k1 k2 k3 k4 k5 k6;have HT:Hid (TopR wz lineT ⟨some ⟨w.heap.size+1,0,none⟩,3,some ⟨w.heap.size+1+1,0,none⟩,2,some ⟨w.heap.size+1+1+1,0,none⟩,3,some ⟨w.heap.size+1+1+1+1+1+1,0,none⟩,2⟩):=zq ⟨⟨rfl,sl_hasR k1 rfl⟩,⟨rfl,sl_hasR k2 rfl⟩,⟨rfl,sl_hasR k3 rfl⟩,⟨[(⟨1,[⟨0,false⟩,⟨1,false⟩],0,30⟩,.slice (some ⟨w.heap.size+1+1+1+1,0,none⟩) 2 2),(⟨2,[⟨1,false⟩,⟨2,false⟩],50,20⟩,.slice (some ⟨w.heap.size+1+1+1+1+1,0,none⟩) 2 2)],rfl,⟨rfl,sl_hasR k6 rfl⟩,fun p hp=>by
  simp only[List.mem_cons,List.not_mem_nil,or_false]at hp
  rcases hp with rfl|rfl
  ·exact⟨⟨some ⟨w.heap.size+1+1+1+1,0,none⟩,2,rfl,rfl,sl_hasR k4 rfl⟩,fun A n c e=>by cases e;exact Nat.le_refl _⟩
  ·exact⟨⟨some ⟨w.heap.size+1+1+1+1+1,0,none⟩,2,rfl,rfl,sl_hasR k5 rfl⟩,fun A n c e=>by cases e;exact Nat.le_refl _⟩⟩⟩
 have HZ:=zq h0;have HWZ:=zq hwz;clear hwz hwa hbwa h0 h1 h2 h3 h4 h5 h6 k1 k2 k3 k4 k5 k6;go_enter Tryz.func38,Tryz.ntmps38;go_upto_region 1 with fail;go_wp2_with (first|(rw[HWA.out];with_reducible refine stZ #[.slice (some ⟨w.heap.size+1,0,none⟩) 3 3,.slice (some ⟨w.heap.size+1+1,0,none⟩) 2 2,.slice (some ⟨w.heap.size+1+1+1,0,none⟩) 3 3,.slice (some ⟨w.heap.size+1+1+1+1+1+1,0,none⟩) 2 2] HZ.out ?_));rw[HWZ.out];refine roZ HR.out ?_;exact⟨_,rfl,HT.out,Nat.le_refl _,HBF.out⟩
end
section
open Go.ChangeShapes Go.WideShapes Go.ChangeAt Go.RowKit
theorem gWidths:Tryz.prog.globalNamed "lineside/vars.widths" =some 0:=by kernel_rfl
theorem gWidthsType:(Tryz.prog.globals[0]?).map (·.type)=some 280:=by kernel_rfl
theorem cellsWidths:Tryz.prog.cellsOf 280=96:=by kernel_rfl
theorem cellsInt:Tryz.prog.cellsOf 3=1:=by kernel_rfl
def widthInts:List Int:=vrows.map fun r=>((r.width:Nat):Int)
theorem laid_widths {H:Type}:(Rows.laid_lineside_vars_widths:DataW H)=Lib.tabData .i64 widthInts:=by kernel_rfl
theorem wd_of_laid {W:World}(h:laidMetH Tryz.prog [("lineside/vars.widths",Rows.laid_lineside_vars_widths)] W):Wd W:=by
 rw[laid_widths]at h;have ht:Lib.TabIs Tryz.prog W "lineside/vars.widths" .i64 widthInts:=
  Lib.tabIs_of_head (rest:=[]) gWidths gWidthsType Tryz.underlying280 Tryz.underlying3 cellsInt cellsWidths h
 intro i hi;have hl:=vrows_length;have:=ht.cell gWidths i (by simp only[widthInts,List.length_map];omega);rw[this];simp[widthInts,List.getD_eq_getElem?_getD,List.getElem?_eq_getElem (show i<vrows.length by omega)]
noncomputable def widthsWorld (os:Os):World:=
 {World.holding Tryz.prog os ⟨#[],#[],[]⟩with heap:=(World.holding Tryz.prog os ⟨#[],#[],[]⟩).heap.modify 0 fun
   | .cells _ t frozen=> .cells (widthInts.map fun z=>Value.int .i64 z).toArray t frozen
   |o=>o}
end
end Go.Proofs.YtahadmeilajdgaaGreatDoor
