/-
  Our own text, joined.
-/
import Derived.Test.YtahadmeilajdgaaGreatDoorMrac
import Derived.Test.YtahadmeilajdgaaGreatDoorMraf
import Derived.Test.YtahadmeilajdgaaGreatDoorMrag
import Derived.Test.YtahadmeilajdgaaGreatDoorMram
import Derived.Test.YtahadmeilajdgaaGreatDoorMraj
import Derived.Test.YtahadmeilajdgaaGreatDoorMrah
import Derived.BigQuiet
import Derived.IntWalk
import Derived.Test.YtahadmeilajdgaaGreatDoorMraa
import Derived.Shelf.SlSortCmp.WholeK
import Derived.Test.YtahadmeilajdgaaGreatDoorMrak
import Derived.LoopIn
import Derived.RangeFuncNested
import Derived.RangeFuncBound
import Derived.RangeFuncCalls
import Derived.RangeFuncLeaves
import Derived.RangeFuncBox
import Derived.Shelf.Abstract
import Derived.Shelf.AbstractIn
import Derived.Shelf.RegionOpen
import Derived.ControlIn
namespace Go.Proofs.YtahadmeilajdgaaGreatDoor
set_option maxRecDepth 100000
set_option maxHeartbeats 8000000
section
open Go.RowKit
open Go.Great
theorem qev (a b:St3):eqS a b=eqS b a:=by
 rw[Bool.eq_iff_iff,qaI,qaI];exact eq_comm
theorem any_among17 (l:List St3)(v:St3):l.any (eqS v)=qbV l v:=by
 unfold qbV
 congr 1
 funext x
 exact qev v x
theorem qbF {P:Program}(s:Nat)(t e:TypeId)(h:P.underlying t=some (.slice e))(hs:(P.info? e).map (·.size)=some s)(A:Option Addr)(n c p:Nat)(hp:p<=n)(w:World):
  (Instr.sliceAt t (.slice A n c) (some (.int .i64 (p:Nat))) none none).run P w= .ok (.slice (if c=p then A else A.map (·.add (p*s))) (n-p) (c-p)) w:=by
 have e1:(sizeOf e).run P w= .ok s w:=by
  cases hi:P.info? e with
  |none=>rw[hi]at hs;cases hs
  |some i=>
   rw[hi]at hs;simp only[Option.map_some,Option.some.injEq]at hs;simp[sizeOf,run_typeInfo _ hi,hs]
 have h0:(0:Int)<=(p:Nat):=by omega
 have h1:((p:Nat):Int)<=(n:Nat):=by omega
 simp[Instr.sliceAt,Instr.slice,run_underlying h,Instr.sliceBounds,run_sliceBound,h0,h1,e1]
theorem sl_from17 {w:World}{s:Nat}{A:Option Addr}{n c:Nat}{vs:List Value}(h:Sl w s A n c vs)(hc:n<=c){p:Nat}(hp:p<=n):Sl w s (if c=p then A else A.map (·.add (p*s))) (n-p) (c-p) (vs.drop (p*s)):=by
 have hl:vs.length=n*s:=h.1;refine⟨by rw[List.length_drop,hl,Nat.sub_mul],fun e=>?_,fun ad ha j u hu=>?_⟩
 ·cases A with
  |none=>have:=h.2.1 rfl;omega
  |some a=>
   rw[Option.map_some]at e;split at e<;>cases e
 ·have hj:p*s+j<n*s:=by
   have:=(List.getElem?_eq_some_iff.1 hu).1;rw[List.length_drop]at this;omega
  rw[List.getElem?_drop]at hu;have hcp:c≠p:=fun e=>by
   have:n*s<=p*s:=Nat.mul_le_mul_right s (by omega);omega
  rw[if_neg hcp]at ha
  cases A with
  |none=>cases ha
  |some a=>
   rw[Option.map_some]at ha;injection ha with ha
   subst ha;have h4:=h.2.2 a rfl (p*s+j) u hu;have e:(a.add (p*s)).add j=a.add (p*s+j):=by
    unfold Addr.add;by_cases h1:p*s=0
    ·rw[h1];simp
    ·by_cases h2:j=0
     ·subst h2;simp[h1]
     ·simp[h1,h2,Nat.add_assoc]
   rw[e];exact h4
theorem SlO.from17 {α:Type}{f:α->List Value}{k:Nat}{w:World}{A:Option Addr}{n c:Nat}{l:List α}(h:SlO f k w A n c l)(hf: ∀x,(f x).length=k)(hc:n<=c){p:Nat}(hp:p<=n):SlO f k w (if c=p then A else A.map (·.add (p*k))) (n-p) (c-p) (l.drop p):=by
 have hl:=h.1;refine⟨by rw[List.length_drop,hl],?_⟩;have h1:l.flatMap f=(l.take p).flatMap f++(l.drop p).flatMap f:=by rw[<-List.flatMap_append,List.take_append_drop]
 have h2:((l.take p).flatMap f).length=p*k:=by rw[qbJ (f:=f) (k:=k) hf,List.length_take,Nat.min_eq_left (by omega)]
 have h3:(l.drop p).flatMap f=(l.flatMap f).drop (p*k):=by rw[h1,<-h2,List.drop_left]
 rw[h3];exact sl_from17 h.2 hc hp
theorem ris_app17 {p:Int}{a b:List Sc3}:risB p (a++b)=(risB p a &&risB (qbj p a) b):=by
 induction a generalizing p with
 |nil=>simp[risB,qbj]
 |cons s r ih=>
  rw[List.cons_append,risB,risB,ih,qbj];simp only[Bool.and_assoc]
theorem ris_at17 {l:List Sc3}{i:Nat}{s:Sc3}(h:l[i]?=some s):risB 0 (l.take (i+1))=(risB 0 (l.take i) &&(decide (qbj 0 (l.take i)<s.to_) &&(decide (1<=s.timer) &&decide (s.timer<=1000)))):=by
 rw[List.take_add_one,h,ris_app17];simp only[Option.toList,risB,Bool.and_true]
theorem qgo {l:List Sc3}{i:Nat}(h:risB 0 (l.take i)=false):risB 0 l=false:=by
 have h1:=ris_app17 (p:=0) (a:=l.take i) (b:=l.drop i);rw[List.take_append_drop]at h1;rw[h1,h,Bool.false_and]
theorem last_at_17 {l:List Sc3}{i:Nat}{s:Sc3}(h:l[i]?=some s):qbj 0 (l.take (i+1))=s.to_:=by
 rw[List.take_add_one,h];exact qfl _ _ _
theorem sum_at17 {t:Tp3}{l:List St3}{i:Nat}{s:St3}(h:l[i]?=some s):sumT t (l.take (i+1))=sumT t (l.take i)+lenAt t s:=by
 rw[List.take_add_one,h,qfI];show _+(lenAt t s+0)=_
 rw[Int.add_zero]
theorem reach_at17 {age n:Int}{l:List Sc3}{i:Nat}{s:Sc3}(h:l[i]?=some s):qdS age n (l.drop i)=if age<s.timer then qdS age s.to_ (l.drop (i+1))else n:=by
 rw[qcc h,qdS]
theorem opgo_any (x:St3)(d:Int)(g:Nat)(w:World)(hc:w.cell? ⟨g,0,none⟩=some (.int .i64 d)):
  Calls Tryz.prog 182 #[.agg (stA13 x),.pointer (some ⟨g,0,none⟩)] w fun e w'=>e= .returned (.bool (x.edge==d))/\Below w.heap.size w w':=by
 obtain⟨wa,hwa,hbwa,HWA,HBWA,h0⟩:=bx1Z w 30 (stA13 x);have c0:wa.cell? ⟨w.heap.size,0,none⟩=some (.int .i64 x.edge):=h0.cell 0;have e0:wa.cell? ⟨g,0,none⟩=some (.int .i64 d):=(hbwa.cell (qag hc)).trans hc;clear hwa hbwa h0 hc;obtain⟨q,hq⟩:=geZ ((x.edge==d));rw[hq];unfold stA13 at*;go_enter Tryz.func182,Tryz.ntmps182;go_upto_region 1 with fail;rw[HWA.out];clear HWA;go_wp2;go_ret
 exact⟨by first|rfl|(rw[hq];done)|simp_all,HBWA.out⟩
theorem oix_go (p:St3->Bool)(l:List St3)(A:Option Addr)(n c:Nat)(g:Nat)(w:World)(hs:SlO stC 2 w A n c l)(hbig:n<=1048576)
  (HE:Hid (∀(x:St3) W,Below w.heap.size w W->Calls Tryz.prog 182 #[.agg (stA13 x),.pointer (some ⟨g,0,none⟩)] W fun e w'=>e= .returned (.bool (p x))/\Below W.heap.size W w')):
  Calls Tryz.prog 181 #[.slice A n c,.func (.func 182) #[] #[.pointer (some ⟨g,0,none⟩)]] w fun e w'=>e= .returned (.int .i64 (idxL p l))/\Below w.heap.size w w':=by
 try unfold blA at HE
 try unfold stA13 at HE
 have HN:Hid (l.length=n):=zq hs.len13;have HW:=zq hs;clear hs;have x0:(0:Int)<=n:=by omega
 obtain⟨R,hR⟩:=geZ (idxL p l);have HR:=zq hR;rw[hR];clear hR;go_enter Tryz.func181,Tryz.ntmps181;go_wp2;go_loopg [8] n (fun kk v wl=> ∃j:Nat,j<=n/\n-j<=kk/\v= .int .i64 j/\Hid (∀i x,i<j->l[i]?=some x->p x=false)/\Hid (Below w.heap.size w wl))
 case atStart=>exact⟨0,by omega,by omega,rfl,zq fun i x h=>absurd h (by omega),zq (Below.refl _ _)⟩
 obtain⟨j,hj,hjk,rfl,HNO,HBL⟩:=hrel;by_cases hlt:j<n
 ·obtain⟨x,hx⟩:=glZ l (j) (by rw[HN.out];omega)
  obtain⟨bk,off,rfl,d0,d1⟩:=(HW.out.under HBL.out).step hx;have HX:=zq hx;have y0:(0:Int)<=j:=by omega
  have y1:(j:Int)<n:=by omega
  have HC:=zq (HE.out x wr HBL.out);clear hx;generalize hb:p x=b at*;have HBE:=zq hb;clear hb
  cases b with
  |true=>
   have HF:Hid (R=j):=zq (by rw[<-HR.out];exact qbC HX.out HBE.out HNO.out);go_upto_region 4 with fail;go_wp2_with fail;refine HC.out.mono ?_;rintro e w1 ⟨rfl,hb1⟩;have HB1:=tB HBL hb1;clear hb1 d0 d1 HBE HNO;go_wp2;go_ret
   exact⟨by rw[HF.out];rfl,HB1.out⟩
  |false=>
   go_upto_region 4 with fail;go_wp2_with fail;refine HC.out.mono ?_;rintro e w1 ⟨rfl,hb1⟩;have HB1:=tB HBL hb1;have HN2:Hid (∀i y,i<j+1->l[i]?=some y->p y=false):=zq fun i y hi hy=>by
    by_cases h:i=j
    ·subst h;rw[HX.out]at hy;cases hy;exact HBE.out
    ·exact HNO.out i y (by omega) hy
   clear hb1 d0 d1 HBE HNO;go_wp2;go_roundg (gk-1)
   case measure=>omega
   case rel=>exact⟨j+1,by omega,by omega,by go_num,HN2,HB1⟩
 ·have y1: ¬(j:Int)<n:=by omega
  have HF:Hid (R= -1):=zq (by rw[<-HR.out];exact qbg fun i y hi hy=>HNO.out i y (by have:=HN.out;omega) hy);go_wp2;go_ret
  exact⟨by rw[HF.out];rfl,HBL.out⟩
theorem oct_go (p:St3->Bool)(l:List St3)(A:Option Addr)(n c:Nat)(g:Nat)(w:World)(hs:SlO stC 2 w A n c l)(hbig:n<=1048576)
  (HE:Hid (∀(x:St3) W,Below w.heap.size w W->Calls Tryz.prog 182 #[.agg (stA13 x),.pointer (some ⟨g,0,none⟩)] W fun e w'=>e= .returned (.bool (p x))/\Below W.heap.size W w')):
  Calls Tryz.prog 108 #[.slice A n c,.func (.func 182) #[] #[.pointer (some ⟨g,0,none⟩)]] w fun e w'=>e= .returned (.bool (l.any p))/\Below w.heap.size w w':=by
 have H:=zq (oix_go p l A n c g w hs hbig HE);clear hs HE;rw[<-qbq];generalize idxL p l=R at*;go_enter Tryz.func108,Tryz.ntmps108;go_wp2_with fail;refine H.out.mono ?_;rintro e w1 ⟨rfl,hb1⟩;have HB1:=zq hb1;clear hb1 H;go_wp2;go_ret
 exact⟨rfl,HB1.out⟩
theorem qey (path:List St3)(e:Int)(A:Option Addr)(n c:Nat)(w:World)(hp:SlO stC 2 w A n c path)(hn:n<=1048576):
  Calls Tryz.prog 110 #[.slice A n c,.int .i64 e] w fun r w'=>r= .returned (.bool (goesB path e))/\Below w.heap.size w w':=by
 obtain⟨wa,hwa,hbwa,HWA,HBWA,h0⟩:=bx1Z w 3 #[.int .i64 e];have n0:wa.cell? ⟨w.heap.size,0,none⟩=some (.int .i64 e):=h0.cell 0;have H:=zq (oct_go (fun s=>s.edge==e) path A n c (w.heap.size) wa (hp.under hbwa) hn (zq fun x W hW=>opgo_any x e (w.heap.size) W ((hW.cell (qag n0)).trans n0)));unfold goesB;generalize (path.any fun s=>s.edge==e)=R at*;clear hwa hbwa h0 hp n0;go_enter Tryz.func110,Tryz.ntmps110;go_upto_region 1 with fail;rw[HWA.out];clear HWA;go_wp2_with fail;refine H.out.mono ?_;rintro e_ w1 ⟨rfl,hb1⟩;have HB1:=tB HBWA hb1;clear hb1 H HBWA;go_wp2;go_ret
 exact⟨rfl,HB1.out⟩
theorem oprep_any (path:List St3)(A:Option Addr)(n c:Nat)(w:World)(hp:SlO stC 2 w A n c path)(hn:n<=1048576)(hc:n<=c):
  Calls Tryz.prog 58 #[.slice A n c] w fun e w'=>e= .returned (.bool (qa6 path))/\Below w.heap.size w w':=by
 have HS:=zq hp;have HN:Hid (path.length=n):=zq hp.1;clear hp;obtain⟨Q,hQ⟩:=geZ (qa6 path);have HQ:=zq hQ;rw[hQ];clear hQ;go_enter Tryz.func58,Tryz.ntmps58;go_wp2;go_loopg [7] n (fun kk v wl=> ∃i:Nat,i<=n/\n-i<=kk/\v= .int .i64 i/\Hid (∀m,m<i->repB path m=false)/\Hid (Below w.heap.size w wl))
 case atStart=>exact⟨0,by omega,by omega,rfl,zq fun m h=>absurd h (by omega),zq (Below.refl _ _)⟩
 obtain⟨i,hi,hik,rfl,HNO,HBL⟩:=hrel;obtain⟨wv,hwv⟩: ∃wv,wv=wr:=⟨_,rfl⟩
 subst hwv;by_cases hlt:i<n;rotate_left
 ·have y1: ¬(i:Int)<n:=by omega
  have HF:Hid (Q=false):=zq (by
   rw[<-HQ.out]
   cases hq:qa6 path with
   |false=>rfl
   |true=>
    obtain⟨m,hm,h⟩:=qeh.2 hq;rw[HNO.out m (by have:=HN.out;omega)]at h
    cases h)
  go_wp2;go_ret
  exact⟨by rw[HF.out];rfl,HBL.out⟩
 obtain⟨x,hx⟩:=glZ path (i) (by rw[HN.out];omega);obtain⟨bk,off,rfl,d0,d1⟩:=(HS.out.under HBL.out).step hx;have y0:(0:Int)<=i:=by omega
 have y1:(i:Int)<n:=by omega
 have y2:(i:Int)<=c:=by omega
 obtain⟨q,hq⟩:=geZ (repB path i);have hqe:goesB (path.take i) x.edge=q:=by rw[<-hq];unfold repB goesB;rw[hx]
 have HQI:=zq hq;have HQE:=zq hqe;have HII:=zq (show i<=n/\i<=1048576 from⟨hi,by omega⟩);clear hq hqe hx;go_upto_region 4 with fail;obtain⟨wb,hwb⟩:=geZ (wv.alloc (.cells #[.int .i64 x.edge,.bool x.rev] 30));rw[hwb];have hbb:Below wv.heap.size wv wb:=by rw[<-hwb];exact bA
 have hH:Has wb wv.heap.size 30 #[.int .i64 x.edge,.bool x.rev]:=by rw[<-hwb];exact Has.made _ _ _
 have HH:=zq hH;have HBB:=tB HBL hbb;obtain⟨gs,hgs⟩: ∃g,wv.heap.size=g:=⟨_,rfl⟩
 rw[hgs]at HH;simp only[hgs];clear hwb hbb hH hgs d0 d1;refine wp_region_held_drew (S:=(fun W_=>(Has W_ (gs) 30 #[.int .i64 x.edge,.bool x.rev])/\(Below wb.heap.size wb W_))) (by kernel_rfl) ?_ (fun hHeld=>?_)
 ·exact⟨HH.out.draw,qah (Below.refl _ _)⟩
 refine tkZ 0 12 (h:=?_);simp only[lyZ];refine tkZ 1 13 (h:=?_);simp only[lyZ];refine tkZ 2 14 (h:=?_);simp only[lyZ];refine tkZ 3 15 (h:=?_);simp only[lyZ];refine tqZ 4 16 (fun w_ ⟨s0,s1⟩=>(show w_.cell? ⟨gs,0,none⟩=some (.int .i64 x.edge:Value)from s0.cell 0)) (h:=?_);simp only[lyZ];refine rdZ [5] ?_;refine acZ (some 17) (fun K hK=>?_) ?_
 ·go_simp
  obtain⟨s0,s1⟩:=hHeld;refine(qey (path.take i) x.edge (some ⟨bk,off,none⟩) i c _ ((HS.out.under (bu HBB.out s1)).take (fun _=>rfl) (by simp) HII.out.1) HII.out.2).mono ?_;rw[HQE.out];rintro e_ q1 ⟨rfl,hb_⟩;go_wp2_with fail;refine hK.out _ _ ?_ (fun hHeld=>?_)
  ·exact⟨s0.u hb_,bu s1 hb_⟩
  clear hK K s0 s1
  try simp only[lyZ]
  refine dnZ ?_;have HB1:=zq (HBB.out.trans (hHeld.2.mono HBB.out.size));clear hHeld
  cases q with
  |true=>
   have HF:Hid (Q=true):=zq (by rw[<-HQ.out];exact qeh.1 ⟨i,by have:=HN.out;omega,HQI.out⟩);clear HNO;go_wp2;go_ret
   exact⟨by rw[HF.out];rfl,HB1.out⟩
  |false=>
   have HN2:Hid (∀m,m<i+1->repB path m=false):=zq fun m hm=>by
    by_cases h:m=i
    ·rw[h];exact HQI.out
    ·exact HNO.out m (by omega)
   clear HNO;go_wp2;go_roundg (gk-1)
   case measure=>omega
   case rel=>exact⟨i+1,by omega,by omega,by go_num,HN2,HB1⟩
 exact AllReadyH.nil
theorem opme_any (x:St3)(b:List St3)(A:Option Addr)(n c:Nat)(g:Nat)(w:World)(hc:w.cell? ⟨g,0,none⟩=some (.slice A n c))(hb:SlO stC 2 w A n c b)(hn:n<=1048576):
  Calls Tryz.prog 109 #[.agg (stA13 x),.pointer (some ⟨g,0,none⟩)] w fun r w'=>r= .returned (.bool (goesB b x.edge))/\Below w.heap.size w w':=by
 obtain⟨wa,hwa,hbwa,HWA,HBWA,h0⟩:=bx1Z w 30 (stA13 x);have c0:wa.cell? ⟨w.heap.size,0,none⟩=some (.int .i64 x.edge):=h0.cell 0;have e0:wa.cell? ⟨g,0,none⟩=some (.slice A n c):=(hbwa.cell (qag hc)).trans hc;have H:=zq (qey b x.edge A n c wa (hb.under hbwa) hn);generalize goesB b x.edge=R at*;clear hwa hbwa h0 hc hb;unfold stA13 at*;go_enter Tryz.func109,Tryz.ntmps109;go_upto_region 1 with fail;rw[HWA.out];clear HWA;go_wp2_with fail;refine H.out.mono ?_;rintro e_ w1 ⟨rfl,hb1⟩;have HB1:=tB HBWA hb1;clear hb1 H HBWA;go_wp2;go_ret
 exact⟨rfl,HB1.out⟩
theorem oix_me (p:St3->Bool)(l:List St3)(A:Option Addr)(n c:Nat)(g:Nat)(w:World)(hs:SlO stC 2 w A n c l)(hbig:n<=1048576)
  (HE:Hid (∀(x:St3) W,Below w.heap.size w W->Calls Tryz.prog 109 #[.agg (stA13 x),.pointer (some ⟨g,0,none⟩)] W fun e w'=>e= .returned (.bool (p x))/\Below W.heap.size W w')):
  Calls Tryz.prog 181 #[.slice A n c,.func (.func 109) #[] #[.pointer (some ⟨g,0,none⟩)]] w fun e w'=>e= .returned (.int .i64 (idxL p l))/\Below w.heap.size w w':=by
 try unfold blA at HE
 try unfold stA13 at HE
 have HN:Hid (l.length=n):=zq hs.len13;have HW:=zq hs;clear hs;have x0:(0:Int)<=n:=by omega
 obtain⟨R,hR⟩:=geZ (idxL p l);have HR:=zq hR;rw[hR];clear hR;go_enter Tryz.func181,Tryz.ntmps181;go_wp2;go_loopg [8] n (fun kk v wl=> ∃j:Nat,j<=n/\n-j<=kk/\v= .int .i64 j/\Hid (∀i x,i<j->l[i]?=some x->p x=false)/\Hid (Below w.heap.size w wl))
 case atStart=>exact⟨0,by omega,by omega,rfl,zq fun i x h=>absurd h (by omega),zq (Below.refl _ _)⟩
 obtain⟨j,hj,hjk,rfl,HNO,HBL⟩:=hrel;by_cases hlt:j<n
 ·obtain⟨x,hx⟩:=glZ l (j) (by rw[HN.out];omega)
  obtain⟨bk,off,rfl,d0,d1⟩:=(HW.out.under HBL.out).step hx;have HX:=zq hx;have y0:(0:Int)<=j:=by omega
  have y1:(j:Int)<n:=by omega
  have HC:=zq (HE.out x wr HBL.out);clear hx;generalize hb:p x=b at*;have HBE:=zq hb;clear hb
  cases b with
  |true=>
   have HF:Hid (R=j):=zq (by rw[<-HR.out];exact qbC HX.out HBE.out HNO.out);go_upto_region 4 with fail;go_wp2_with fail;refine HC.out.mono ?_;rintro e w1 ⟨rfl,hb1⟩;have HB1:=tB HBL hb1;clear hb1 d0 d1 HBE HNO;go_wp2;go_ret
   exact⟨by rw[HF.out];rfl,HB1.out⟩
  |false=>
   go_upto_region 4 with fail;go_wp2_with fail;refine HC.out.mono ?_;rintro e w1 ⟨rfl,hb1⟩;have HB1:=tB HBL hb1;have HN2:Hid (∀i y,i<j+1->l[i]?=some y->p y=false):=zq fun i y hi hy=>by
    by_cases h:i=j
    ·subst h;rw[HX.out]at hy;cases hy;exact HBE.out
    ·exact HNO.out i y (by omega) hy
   clear hb1 d0 d1 HBE HNO;go_wp2;go_roundg (gk-1)
   case measure=>omega
   case rel=>exact⟨j+1,by omega,by omega,by go_num,HN2,HB1⟩
 ·have y1: ¬(j:Int)<n:=by omega
  have HF:Hid (R= -1):=zq (by rw[<-HR.out];exact qbg fun i y hi hy=>HNO.out i y (by have:=HN.out;omega) hy);go_wp2;go_ret
  exact⟨by rw[HF.out];rfl,HBL.out⟩
theorem oct_me (p:St3->Bool)(l:List St3)(A:Option Addr)(n c:Nat)(g:Nat)(w:World)(hs:SlO stC 2 w A n c l)(hbig:n<=1048576)
  (HE:Hid (∀(x:St3) W,Below w.heap.size w W->Calls Tryz.prog 109 #[.agg (stA13 x),.pointer (some ⟨g,0,none⟩)] W fun e w'=>e= .returned (.bool (p x))/\Below W.heap.size W w')):
  Calls Tryz.prog 108 #[.slice A n c,.func (.func 109) #[] #[.pointer (some ⟨g,0,none⟩)]] w fun e w'=>e= .returned (.bool (l.any p))/\Below w.heap.size w w':=by
 have H:=zq (oix_me p l A n c g w hs hbig HE);clear hs HE;rw[<-qbq];generalize idxL p l=R at*;go_enter Tryz.func108,Tryz.ntmps108;go_wp2_with fail;refine H.out.mono ?_;rintro e w1 ⟨rfl,hb1⟩;have HB1:=zq hb1;clear hb1 H;go_wp2;go_ret
 exact⟨rfl,HB1.out⟩
theorem opmeets_any (a b:List St3)(A B:Option Addr)(n c m d:Nat)(w:World)(ha:SlO stC 2 w A n c a)(hb:SlO stC 2 w B m d b)(hn:n<=1048576)(hm:m<=1048576):
  Calls Tryz.prog 48 #[.slice A n c,.slice B m d] w fun r w'=>r= .returned (.bool (qeW a b))/\Below w.heap.size w w':=by
 obtain⟨wa,hwa,hbwa,HWA,HBWA,h0⟩:=bx1Z w 35 #[.slice B m d];have n0:wa.cell? ⟨w.heap.size,0,none⟩=some (.slice B m d):=h0.cell 0;have H:=zq (oct_me (fun s=>goesB b s.edge) a A n c (w.heap.size) wa (ha.under hbwa) hn (zq fun x W hW=>opme_any x b B m d (w.heap.size) W ((hW.cell (qag n0)).trans n0) ((hb.under hbwa).under hW) hm));unfold qeW;generalize (a.any fun s=>goesB b s.edge)=R at*;clear hwa hbwa h0 ha hb n0;go_enter Tryz.func48,Tryz.ntmps48;go_upto_region 1 with fail;rw[HWA.out];clear HWA;go_wp2_with fail;refine H.out.mono ?_;rintro e_ w1 ⟨rfl,hb1⟩;have HB1:=tB HBWA hb1;clear hb1 H HBWA;go_wp2;go_ret
 exact⟨rfl,HB1.out⟩
theorem qfq (l:List St3)(v:St3)(A:Option Addr)(n c:Nat)(w:World)(hs:SlO stC 2 w A n c l)(hn:n<=1048576):
  Calls Tryz.prog 42 #[.slice A n c,.agg (stA13 v)] w fun r w'=>r= .returned (.bool (qbV l v))/\Below w.heap.size w w':=by
 obtain⟨wa,hwa,hbwa,HWA,HBWA,h0⟩:=bx1Z w 30 (stA13 v);have HX:=zq h0;have H:=zq (oixs_any l v A n c wa (hs.under hbwa) hn);rw[<-any_among17,<-qbq];generalize idxL (eqS v) l=R at*;clear hwa hbwa h0 hs;go_enter Tryz.func42,Tryz.ntmps42;go_upto_region 1 with fail;rw[HWA.out];clear HWA;go_wp2_with (with_reducible refine ldZ 6 HX.out ?_);refine H.out.mono ?_;rintro e_ w1 ⟨rfl,hb1⟩;have HB1:=tB HBWA hb1;clear hb1 H HBWA HX;go_wp2;go_ret
 exact⟨rfl,HB1.out⟩
theorem opbegins_any (path steps:List St3)(A B:Option Addr)(n c m d:Nat)(w:World)(ha:SlO stC 2 w A n c path)(hb:SlO stC 2 w B m d steps)(hm:m<=1048576):
  Calls Tryz.prog 47 #[.slice A n c,.slice B m d] w fun r w'=>r= .returned (.bool (qc6 path steps))/\Below w.heap.size w w':=by
 have HB:=zq (Below.refl w.heap.size w);have hl:=ha.1
 cases path with
 |nil=>
  have z0: ¬(0:Int)<n:=by rw[<-hl];simp
  clear ha hb hl;unfold qc6;go_enter Tryz.func47,Tryz.ntmps47;go_wp2;go_ret
  exact⟨rfl,HB.out⟩
 |cons x r=>
  obtain⟨bk,off,rfl,d0,d1⟩:=ha.step (j:=0) (x:=x) rfl;rw[Nat.zero_mul,Nat.add_zero]at d0 d1;have z0:(0:Int)<n:=by have h_:(x::r).length=r.length+1:=rfl;omega
  have z1:0<n:=by omega
  have H:=zq (qfq steps x B m d w hb hm);show Calls _ _ _ _ fun r w'=>r= .returned (.bool (qbV steps x))/\_
  generalize qbV steps x=R at*;clear ha hb hl HB;obtain⟨xe,xr⟩:=x;unfold stA13 at H;dsimp only at*;go_enter Tryz.func47,Tryz.ntmps47;go_wp2_with fail;refine H.out.mono ?_;rintro e_ w1 ⟨rfl,hb1⟩;have HB1:=zq hb1;clear hb1 H d0 d1;go_wp2;go_ret
  exact⟨rfl,HB1.out⟩
theorem qcG (p:Ps3)(w:World):
  Calls Tryz.prog 56 #[.agg (psA p)] w fun e w'=>e= .returned (.agg (stA13 (stepP p)))/\Below w.heap.size w w':=by
 obtain⟨wa,hwa,hbwa,HWA,HBWA,h0,h1⟩:=bx2Z w 51 (psA p) 30 #[.int .i64 0,.bool false];have c0:wa.cell? ⟨w.heap.size,0,none⟩=some (.int .i64 p.edge):=h0.cell 0;have c2:wa.cell? ⟨w.heap.size,2,none⟩=some (.bool p.rev):=h0.cell 2;have HZ:=zq h1;clear hwa hbwa h0 h1;obtain⟨n,k,r⟩:=p;unfold psA at*;unfold stepP stA13;dsimp only at*;have HR:=zq (qab HZ.out #[.int .i64 n,.bool r]);have HBF:=zq (qac (g:=w.heap.size+1) HBWA.out (by omega) #[.int .i64 n,.bool r]);go_enter Tryz.func56,Tryz.ntmps56;go_upto_region 1 with fail;rw[HWA.out];clear HWA HBWA;go_wp2_with (with_reducible refine stZ #[.int .i64 n,.bool r] HZ.out ?_);refine roZ HR.out ?_;exact⟨rfl,HBF.out⟩
theorem qez (t:Tp3)(a:TpA)(k:Lc3)(w:World)(ht:TopR w t a)(hl:qaJ t=true):
  Calls Tryz.prog 45 #[.agg (tpC t a),.agg (lcA k)] w fun r w'=> ∃X x,r= .returned (.slice X (pathR t k.route).length x)/\SlO stC 2 w' X (pathR t k.route).length x (pathR t k.route)/\Below w.heap.size w w':=by
 obtain⟨wa,hwa,hbwa,HWA,HBWA,h0,h1⟩:=bx2Z w 27 (tpC t a) 73 (lcA k);have c0:wa.cell? ⟨w.heap.size+1,0,none⟩=some (.int .i64 k.route):=h1.cell 0;have H0:=zq h0;have H:=zq (otp_routeF t a k.route wa (ht.under hbwa) hl);rw[pathR_of];generalize (qaR t k.route).isSome=q at*;generalize qbd t k.route=R at*;obtain⟨ri,rp,rg,rt⟩:=R;dsimp only at*;unfold rtA at H;dsimp only at H;obtain⟨pn,hpn⟩: ∃n,rp.length=n:=⟨_,rfl⟩
 rw[hpn]at H⊢;clear hwa hbwa h0 h1 ht hpn;obtain⟨kr,kt,kn⟩:=k;unfold lcA at*;dsimp only at*;go_enter Tryz.func45,Tryz.ntmps45;go_upto_region 1 with fail;rw[HWA.out];clear HWA;go_wp2_with (with_reducible refine ldZ 8 H0.out ?_);refine H.out.mono ?_;rintro e_ w1 ⟨A,c,hs1,-,rfl,hb1⟩;have HS1:=zq hs1;have HB1:=tB HBWA hb1;clear hs1 hb1 H c0 HBWA;go_upto_region 2 with fail;obtain⟨wb,hwb⟩:=geZ (w1.alloc (.cells #[.int .i64 ri,.slice A pn c,.int .i64 rg,.int .i64 rt] 75));rw[hwb];have hbb:Below w1.heap.size w1 wb:=by rw[<-hwb];exact bA
 have hH:Has wb w1.heap.size 75 #[.int .i64 ri,.slice A pn c,.int .i64 rg,.int .i64 rt]:=by rw[<-hwb];exact Has.made _ _ _
 have e1:wb.cell? ⟨w1.heap.size,1,none⟩=some (.slice A pn c):=hH.cell 1;have HS2:=zq (HS1.out.under hbb);have HB2:=tB HB1 hbb;clear hwb hbb hH HS1 HB1;go_wp2;go_ret
 exact⟨A,c,rfl,HS2.out,HB2.out⟩
theorem qeX (path:List St3)(s:St3)(A:Option Addr)(n c:Nat)(w:World)(hp:SlO stC 2 w A n c path)(hc:n<=c)(hn:n<=1048576):
  Calls Tryz.prog 118 #[.slice A n c,.agg (stA13 s)] w fun r w'=> ∃B m d,r= .returned (.slice B m d)/\SlO stC 2 w' B m d (behS path s)/\m<=d/\Below w.heap.size w w':=by
 obtain⟨wa,hwa,hbwa,HWA,HBWA,h0⟩:=bx1Z w 30 (stA13 s);have HX:=zq h0;have H:=zq (oixs_any path s A n c wa (hp.under hbwa) hn);have HP:=zq (fun W (hW:Below wa.heap.size wa W)=>(hp.under hbwa).under hW);have hl:=hp.1
 rcases qbK (eqS s) path 0 with⟨h1,h2⟩|⟨i,x,h1,h2,h3,h4⟩
 ·rw[show idxL (eqS s) path= -1 from h1]at H
  have HE:=zq (show behS path s=path from beh_none17 fun j y hy=>by rw[qev];exact h2 j y hy);rw[HE.out];have hCU: ∀W,(Instr.sliceAt 35 (.slice A n c) (some (.int .i64 0)) none none).run Tryz.prog W= .ok (.slice A n c) W:=fun W=>by
   have h_:=qbF (P:=Tryz.prog) 2 35 30 Tryz.underlying35 (by kernel_rfl) A n c 0 (by omega) W;show(Instr.sliceAt 35 (.slice A n c) (some (.int .i64 ((0:Nat):Int))) none none).run Tryz.prog W=_
   rw[h_]
   congr 1
   cases A with
   |none=>simp
   |some a=>simp[Addr.add]
  have HC:=zq hc;clear hwa hbwa h0 hp h1 h2 hl hc HE;go_enter Tryz.func118,Tryz.ntmps118;go_upto_region 1 with fail;rw[HWA.out];clear HWA;go_wp2_with (with_reducible refine ldZ 7 HX.out ?_);refine H.out.mono ?_;rintro e_ w1 ⟨rfl,hb1⟩;have HS1:=zq (HP.out w1 hb1);have HB1:=tB HBWA hb1;clear hb1 H HX HP HBWA;go_wp2;go_ret
  exact⟨A,n,c,rfl,HS1.out,HC.out,HB1.out⟩
 ·have hx:x=s:=((qaI _ _).1 h2).symm
  subst hx;have e0:idxL (eqS x) path=(i:Int):=by unfold idxL;rw[h4];congr 1;omega
  rw[e0]at H;have hi:=(List.getElem?_eq_some_iff.1 h1).1;have HE:=zq (show behS path x=path.drop (i+1)from beh_at17 h1 fun j y hj hy=>by rw[qev];exact h3 j y hj hy);rw[HE.out];obtain⟨i1,hi1⟩: ∃j,i+1=j:=⟨_,rfl⟩
  have hw1:wrap64 ((i:Int)+1)=(i1:Int):=succ_w hi1 (by omega);rw[hi1];have hin:i1<=n:=by omega
  have HSD:=zq (fun W (hW:Below wa.heap.size wa W)=>((hp.under hbwa).under hW).from17 (fun _=>rfl) hc hin);have hCU:=fun W=>qbF (P:=Tryz.prog) 2 35 30 Tryz.underlying35 (by kernel_rfl) A n c i1 hin W;obtain⟨A1,hA1⟩:=geZ ((if c=i1 then A else A.map (·.add (i1*2))));obtain⟨n1,hn1⟩: ∃m,n-i1=m:=⟨_,rfl⟩
  obtain⟨c1,hc1⟩: ∃m,c-i1=m:=⟨_,rfl⟩
  rw[hA1,hn1,hc1]at HSD;rw[hA1,hn1,hc1]at hCU;have HC:=zq (show n1<=c1 from by omega);clear hwa hbwa h0 hp h1 h2 h3 h4 hl hc HE e0 hi hi1 hin hA1 hn1 hc1 HP;go_enter Tryz.func118,Tryz.ntmps118;go_upto_region 1 with fail;rw[HWA.out];clear HWA;go_wp2_with (with_reducible refine ldZ 7 HX.out ?_);refine H.out.mono ?_;rintro e_ w1 ⟨rfl,hb1⟩;have HS1:=zq (HSD.out w1 hb1);have HB1:=tB HBWA hb1;clear hb1 H HX HSD HBWA;go_wp2;go_ret
  exact⟨A1,n1,c1,rfl,HS1.out,HC.out,HB1.out⟩
theorem qft (n:Int)(w:World):Calls Tryz.prog 162 #[.int .i64 n] w fun r w'=>r= .returned (.bool (decide (1<=n) &&decide (n<=1000)))/\w'=w:=by
 by_cases h1:1<=n
 ·rw[decide_eq_true h1,Bool.true_and]
  by_cases h2:n<=1000
  ·rw[decide_eq_true h2]
   go_enter Tryz.func162,Tryz.ntmps162;go_wp2;go_ret
   exact⟨rfl,rfl⟩
  ·rw[decide_eq_false h2]
   go_enter Tryz.func162,Tryz.ntmps162;go_wp2;go_ret
   exact⟨rfl,rfl⟩
 ·rw[decide_eq_false h1,Bool.false_and]
  go_enter Tryz.func162,Tryz.ntmps162;go_wp2;go_ret
  exact⟨rfl,rfl⟩
theorem opsects_any (l:List Sc3)(A:Option Addr)(n c:Nat)(w:World)(hs:SlO scC17 2 w A n c l)(hn:n<=1048576):
  Calls Tryz.prog 85 #[.slice A n c] w fun r w'=>r= .returned (.bool (qdI l))/\Below w.heap.size w w':=by
 have HS:=zq hs;have HL:=zq hs.1;have HNB:=zq hn;obtain⟨R,hR⟩:=geZ (qdI l);have HR:=zq hR;rw[hR];clear hs hR hn;go_enter Tryz.func85,Tryz.ntmps85;go_wp2;go_loopg [3,8] n (fun kk v3 v8 wl=> ∃i:Nat,i<=n/\n-i<=kk/\v8= .int .i64 i/\v3= .int .i64 (qbj 0 (l.take i))/\Hid (risB 0 (l.take i)=true)/\Hid (Below w.heap.size w wl))
 case atStart=>exact⟨0,by omega,by omega,rfl,rfl,zq rfl,zq (Below.refl _ _)⟩
 obtain⟨i,hi,hik,rfl,rfl,HRI,HB⟩:=hrel;obtain⟨wv,hwv⟩: ∃wv,wv=wr:=⟨_,rfl⟩
 subst hwv;obtain⟨k1,hk1⟩: ∃k1,k1=gk:=⟨_,rfl⟩
 subst hk1;by_cases hlt:i<n;rotate_left
 ·obtain rfl:i=n:=by omega
  have x1: ¬(i:Int)<i:=by omega
  have HF:=zq (show R=(decide (1<=i) &&decide (i<=8))from by rw[<-HR.out];unfold qdI;have h_:=HRI.out;rw[List.take_of_length_le (by rw[HL.out];exact Nat.le_refl _)]at h_;rw[h_,HL.out,Bool.true_and]);clear hik hi hlt;generalize qbj 0 (l.take i)=lt at*;by_cases z1:1<=i
  ·have z1':(1:Int)<=i:=by omega
   by_cases z2:i<=8
   ·have z2':(i:Int)<=8:=by omega
    obtain rfl:R=true:=by rw[HF.out,decide_eq_true z1,decide_eq_true z2];rfl
    clear z1 z2;go_wp2;go_ret
    exact⟨rfl,HB.out⟩
   ·have z2': ¬(i:Int)<=8:=by omega
    obtain rfl:R=false:=by rw[HF.out,decide_eq_true z1,decide_eq_false z2];rfl
    clear z1 z2;go_wp2;go_ret
    exact⟨rfl,HB.out⟩
  ·have z1': ¬(1:Int)<=i:=by omega
   obtain rfl:R=false:=by rw[HF.out,decide_eq_false z1];rfl
   clear z1;go_wp2;go_ret
   exact⟨rfl,HB.out⟩
 obtain⟨x,hx⟩:=glZ l (i) (by rw[HL.out];exact hlt);obtain⟨bk,off,rfl,d0,d1⟩:=(HS.out.under HB.out).sect hx;have HRX:=zq (ris_at17 hx);have HLX:=zq (last_at_17 hx);obtain⟨lt,hlt_⟩: ∃q,qbj 0 (l.take i)=q:=⟨_,rfl⟩
 rw[hlt_]at HRX⊢;rw[HRI.out,Bool.true_and]at HRX;have y0:(0:Int)<=i:=by omega
 have y1:(i:Int)<n:=by omega
 have HIN:=zq (show i<n/\n-i<=k1 from⟨hlt,hik⟩);clear hx hi hik hlt hlt_;obtain⟨xt,xm⟩:=x;dsimp only at*;go_upto_region 5 with fail;obtain⟨wb,hwb⟩:=geZ (wv.alloc (.cells #[.int .i64 xt,.int .i64 xm] 66));rw[hwb];have hbb:Below wv.heap.size wv wb:=by rw[<-hwb];exact bA
 have hH:Has wb wv.heap.size 66 #[.int .i64 xt,.int .i64 xm]:=by rw[<-hwb];exact Has.made _ _ _
 have HBB:=tB HB hbb;obtain⟨gs,hgs⟩: ∃g,wv.heap.size=g:=⟨_,rfl⟩
 rw[hgs]at hH;simp only[hgs];have c0:wb.cell? ⟨gs,0,none⟩=some (.int .i64 xt):=hH.cell 0;have c1:wb.cell? ⟨gs,1,none⟩=some (.int .i64 xm):=hH.cell 1;have HH:=zq hH;clear hwb hbb hH hgs d0 d1 HB;by_cases z1:xt<=lt
 ·have HF:=zq (show R=false from by rw[<-HR.out];unfold qdI;rw[qgo (i:=i+1) (by rw[HRX.out,decide_eq_false (by omega: ¬lt<xt)];rfl),Bool.false_and])
  go_wp2;go_ret
  exact⟨by rw[HF.out];rfl,HBB.out⟩
 obtain⟨tb,htb⟩: ∃b,(decide (1<=xm) &&decide (xm<=1000))=b:=⟨_,rfl⟩
 have HC:=zq (qft xm wb);rw[htb]at HC HRX;rw[decide_eq_true (by omega:lt<xt),Bool.true_and]at HRX;clear htb;go_wp2_with fail;refine HC.out.mono ?_;rintro e_ w5 ⟨rfl,rfl⟩
 cases tb with
 |false=>
  have HF:=zq (show R=false from by rw[<-HR.out];unfold qdI;rw[qgo (i:=i+1) HRX.out,Bool.false_and]);go_wp2;go_ret
  exact⟨by rw[HF.out];rfl,HBB.out⟩
 |true=>
  clear c1;go_wp2;go_roundg (k1-1)
  case measure=>have:=HIN.out;omega
  case rel=>exact⟨i+1,by have:=HIN.out;omega,by have:=HIN.out;omega,by first|go_num|(rw[IntWalk.wrap64_in _ (by have h1_:=HIN.out;have h2_:=HNB.out;omega)];go_num),by rw[HLX.out],HRX,HBB⟩
theorem qfu (t:Tp3)(a:TpA)(path:List St3)(A:Option Addr)(n c:Nat)(w:World)(ht:TopR w t a)(hp:SlO stC 2 w A n c path)(hn:n<=100000)(hok:qaF t=true)(hed: ∀s∈path,edgeB t s.edge=true):
  Calls Tryz.prog 86 #[.agg (tpC t a),.slice A n c] w fun r w'=>r= .returned (.int .i64 (sumT t path))/\Below w.heap.size w w':=by
 obtain⟨wa,hwa,hbwa,HWA,HBWA,h0⟩:=bx1Z w 27 (tpC t a);have HT:=zq (fun W (hW:Below wa.heap.size wa W)=>(ht.under hbwa).under hW);have H0:=zH h0;have HP:=zq (fun W (hW:Below wa.heap.size wa W)=>(hp.under hbwa).under hW);have HL:=zq hp.1;have HNB:=zq hn;have HED:=zq hed;have HSM:=zq (fun i=>qcw hok (path:=path.take i) fun s hs=>hed s (List.mem_of_mem_take hs));have HLA:=zq (fun(s:St3) (hs:s∈path)=>qa2 hok (hed s hs));obtain⟨R,hR⟩:=geZ (sumT t path);have HR:=zq hR;rw[hR];clear hwa hbwa h0 ht hp hn hok hed hR;go_enter Tryz.func86,Tryz.ntmps86;go_upto_region 1 with fail;rw[HWA.out];clear HWA;go_wp2;go_loopg [5,10] n (fun kk v5 v10 wl=> ∃i:Nat,i<=n/\n-i<=kk/\v10= .int .i64 i/\v5= .int .i64 (sumT t (path.take i))/\Hid (Below wa.heap.size wa wl))
 case atStart=>exact⟨0,by omega,by omega,rfl,rfl,zq (Below.refl _ _)⟩
 obtain⟨i,hi,hik,rfl,rfl,HB⟩:=hrel;obtain⟨wv,hwv⟩: ∃wv,wv=wr:=⟨_,rfl⟩
 subst hwv;obtain⟨k1,hk1⟩: ∃k1,k1=gk:=⟨_,rfl⟩
 subst hk1;by_cases hlt:i<n;rotate_left
 ·obtain rfl:i=n:=by omega
  have x1: ¬(i:Int)<i:=by omega
  have HF:=zq (show sumT t (path.take i)=R from by rw[List.take_of_length_le (by rw[HL.out];exact Nat.le_refl _)];exact HR.out);rw[HF.out];clear hik hi hlt;go_wp2;go_ret
  exact⟨rfl,HBWA.out.trans (HB.out.mono HBWA.out.size)⟩
 obtain⟨x,hx⟩:=glZ path (i) (by rw[HL.out];exact hlt);have hxm:=List.mem_of_getElem? hx;have HSX:=zq (sum_at17 (t:=t) hx);have HLX:=zq (HLA.out x hxm);have hex:=HED.out x hxm;obtain⟨bk,off,rfl,d0,d1⟩:=(HP.out wv HB.out).step hx;have HSI:=zq (HSM.out i);have hsl:(path.take i).length=i:=by rw[List.length_take,HL.out];omega
 rw[hsl]at HSI;obtain⟨sm,hsm⟩: ∃q,sumT t (path.take i)=q:=⟨_,rfl⟩
 rw[hsm]at HSI HSX⊢;obtain⟨xe,xr⟩:=x;dsimp only at d0 d1 hex;have hx2:0<=xe/\xe<t.edges.length:=by have h_:=hex;unfold edgeB at h_;simpa using h_
 obtain⟨ex,hxe⟩: ∃e:Nat,xe=e:=⟨xe.toNat,by omega⟩
 subst hxe;have hel:ex<t.edges.length:=by omega
 obtain⟨ln,hln⟩: ∃q,t.edges.getD ex 0=q:=⟨_,rfl⟩
 have hlx:lenAt t ⟨(ex:Int),xr⟩=ln:=by unfold lenAt;rw[<-hln];first|rfl|simp
 rw[hlx]at HSX HLX;have HEL:=zq hel;have HLN:=zq hln;have y0:(0:Int)<=i:=by omega
 have y1:(i:Int)<n:=by omega
 have HIN:=zq (show i<n/\n-i<=k1 from⟨hlt,hik⟩);clear hx hi hik hlt hsm hsl hxm hex hx2 hlx hel hln;go_upto_region 5 with fail;obtain⟨wb,hwb⟩:=geZ (wv.alloc (.cells #[.int .i64 (ex:Int),.bool xr] 30));rw[hwb];have hbb:Below wv.heap.size wv wb:=by rw[<-hwb];exact bA
 have hH:Has wb wv.heap.size 30 #[.int .i64 (ex:Int),.bool xr]:=by rw[<-hwb];exact Has.made _ _ _
 have HBB:=tB HB hbb;obtain⟨gs,hgs⟩: ∃g,wv.heap.size=g:=⟨_,rfl⟩
 rw[hgs]at hH;simp only[hgs];have c0:wb.cell? ⟨gs,0,none⟩=some (.int .i64 (ex:Int)):=hH.cell 0;obtain⟨be,oe,hpa_,ce⟩:=(HT.out wb HBB.out).e.edge HEL.out;rw[HLN.out]at ce;have e0:wb.cell? ⟨w.heap.size,0,none⟩=some (.slice (some ⟨be,oe,none⟩) t.edges.length a.ce):=by have h_:=(H0.out wb HBB.out).cell 0;rw[<-hpa_];exact h_
 have y2:(0:Int)<=ex:=by omega
 have y3:(ex:Int)<t.edges.length:=by have:=HEL.out;omega
 have y4: -4000000000000<=sm/\sm<=4000000000000:=by have h1_:=HSI.out;have h2_:=HNB.out;have h3_:=HIN.out;omega
 have y5:1<=ln/\ln<=1000000:=HLX.out;obtain⟨s2,hs2⟩: ∃q,sm+ln=q:=⟨_,rfl⟩
 have hw1:wrap64 (sm+ln)=s2:=by rw[IntWalk.wrap64_in _ (by omega)];exact hs2
 rw[hs2]at HSX;clear hwb hbb hH hgs d0 d1 HB hpa_ hs2 y4 y5;go_wp2;go_roundg (k1-1)
 case measure=>have:=HIN.out;omega
 case rel=>exact⟨i+1,by have:=HIN.out;omega,by have:=HIN.out;omega,by first|go_num|(rw[IntWalk.wrap64_in _ (by have h1_:=HIN.out;have h2_:=HNB.out;omega)];go_num),by rw[HSX.out];first|rfl|rw[hw1],HBB⟩
theorem qdf (t:Tp3)(a:TpA)(path:List St3)(A:Option Addr)(n c:Nat)(w:World)(ht:TopR w t a)(hl:qaJ t=true)(hp:SlO stC 2 w A n c path)(hn:n<=1048576)(hc:n<=c):
  Calls Tryz.prog 84 #[.agg (tpC t a),.slice A n c] w fun r w'=>r= .returned (.bool (qdQ t path))/\Below w.heap.size w w':=by
 obtain⟨wa,hwa,hbwa,HWA,HBWA,h0⟩:=bx1Z w 27 (tpC t a);have H0:=zq h0;have H:=zq (otp_length_e t a path A n c wa (ht.under hbwa) (hp.under hbwa) hn hl);have HR2:=zq (fun W (hW:Below wa.heap.size wa W)=>oprep_any path A n c W ((hp.under hbwa).under hW) hn hc);have hlen:=hp.1;have HB:=HBWA;unfold qdQ;rw[hlen];generalize lenE t path=le at*;generalize qa6 path=tw at*;obtain⟨R,hR⟩:=geZ ((decide (le=0) &&(decide (n<=24) &&!tw)));rw[hR];have HR:=zq hR;clear hwa hbwa h0 ht hp hlen hl hR;go_enter Tryz.func84,Tryz.ntmps84;go_upto_region 1 with fail;rw[HWA.out];clear HWA;go_wp2_with (with_reducible refine ldZ 8 H0.out ?_);refine H.out.mono ?_;rintro e_ w1 ⟨N,rfl,hb1⟩;have HB1:=tB HB hb1;have HR3:=zq (HR2.out w1 hb1);clear hb1 H H0 HB HR2 HBWA;by_cases z1:le=0;rotate_left
 ·have q0:(le==0)=false:=by simp[z1]
  obtain rfl:R=false:=by rw[<-HR.out,decide_eq_false z1];rfl
  go_wp2;go_ret
  exact⟨rfl,HB1.out⟩
 subst z1;by_cases z2:n<=24;rotate_left
 ·have z2': ¬(n:Int)<=24:=by omega
  obtain rfl:R=false:=by rw[<-HR.out,decide_eq_false z2];rfl
  go_wp2;go_ret
  exact⟨rfl,HB1.out⟩
 have z2':(n:Int)<=24:=by omega
 obtain rfl:R=!tw:=by rw[<-HR.out,decide_eq_true z2];simp
 clear HR;go_wp2_with fail;refine HR3.out.mono ?_;rintro e_ w2 ⟨rfl,hb2⟩;have HB2:=tB HB1 hb2;clear hb2 HR3;go_wp2;go_ret
 exact⟨rfl,HB2.out⟩
theorem opend_any (m:Ma3)(b:MaA)(w:World)(hs:SlO scC17 2 w b.aq m.sects.length b.cs m.sects)(h1:1<=m.sects.length)(hn:m.sects.length<=1048576):
  Calls Tryz.prog 80 #[.agg (maC m b)] w fun r w'=>r= .returned (.int .i64 (endM m))/\Below w.heap.size w w':=by
 obtain⟨wa,hwa⟩:=geZ (w.alloc (.cells (maC m b) 38));have hbwa:Below w.heap.size w wa:=by rw[<-hwa];exact bA
 have g0:Has wa (w.heap.size) 38 (maC m b):=by rw[<-hwa];exact(Has.made _ _ _)
 have HWA:=zq hwa;have HBWA:=zq hbwa;have HS:=zq (hs.under hbwa);have m3:wa.cell? ⟨w.heap.size,3,none⟩=some (.slice b.aq m.sects.length b.cs):=g0.cell 3;clear hwa hbwa g0 hs;obtain⟨K,hK⟩:=geZ (m.sects.length);obtain⟨s,hk⟩: ∃s,m.sects[K-1]?=some s:=⟨_,List.getElem?_eq_getElem (by omega)⟩
 rw[end17 (i:=K-1) (by omega) hk];obtain⟨bk,off,ha,d0,-⟩:=HS.out.sect hk;rw[ha,hK]at m3;have hK1:1<=K:=by omega
 have hK2:K<=1048576:=by omega
 have y3:(0:Int)<=(K:Int)-1:=by omega
 have y4:(K:Int)-1<K:=by omega
 have y5:((K:Int)-1).toNat=K-1:=by omega
 have y6:(1:Int)<=K:=by omega
 clear HS hk ha h1 hn hK;generalize s.to_=to_ at*;go_enter Tryz.func80,Tryz.ntmps80;go_upto_region 1 with fail;rw[HWA.out];go_wp2;go_ret
 exact⟨rfl,HBWA.out⟩
theorem qfs (rev:Bool)(w:World):Calls Tryz.prog 82 #[.bool rev] w fun r w'=>r= .returned (.int .i64 (dirB rev))/\w'=w:=by
 cases rev with
 |true=>
  go_enter Tryz.func82,Tryz.ntmps82;go_wp2;go_ret
  exact⟨rfl,rfl⟩
 |false=>
  go_enter Tryz.func82,Tryz.ntmps82;go_wp2;go_ret
  exact⟨rfl,rfl⟩
theorem opn_reach (m:Ma3)(b:MaA)(age:Int)(w:World)(hm:MaR w m b)(_:m.path.length<=100)(hk:m.sects.length<=100):Calls Tryz.prog 31 #[.agg (maC m b),.int .i64 age] w fun r w'=>r= .returned (.int .i64 (reachM m age))/\Below w.heap.size w w':=by
 obtain⟨wa,hwa,hbwa,HWA,HBWA,h0⟩:=bx1Z w 38 (maC m b);have HS:=zq (fun W (hW:Below wa.heap.size wa W)=>(hm.sects.under hbwa).under hW);have m3:wa.cell? ⟨w.heap.size,3,none⟩=some (.slice b.aq m.sects.length b.cs):=h0.cell 3;obtain⟨R,hR⟩:=geZ (reachM m age);have HR:=zq (show qdS age 0 m.sects=R from hR);rw[hR];generalize m.sects=l at*;obtain⟨n,hn⟩:=geZ (l.length);rw[hn]at m3 HS hk;obtain⟨A,hA⟩:=geZ (b.aq);rw[hA]at m3 HS;clear hA;have HL:=zq hn;have HNB:=zq hk;clear hwa hbwa h0 hm hR hn hk;go_enter Tryz.func31,Tryz.ntmps31;go_upto_region 1 with fail;rw[HWA.out];clear HWA;go_wp2;clear m3;go_loopg [5,11] n (fun kk v5 v11 wl=> ∃(i:Nat) (x:Int),i<=n/\n-i<=kk/\v11= .int .i64 i/\v5= .int .i64 x/\Hid (qdS age x (l.drop i)=R)/\Hid (Below wa.heap.size wa wl))
 case atStart=>exact⟨0,0,by omega,by omega,rfl,rfl,HR,zq (Below.refl _ _)⟩
 obtain⟨i,xv,hi,hik,rfl,rfl,HRI,HB⟩:=hrel;obtain⟨wv,hwv⟩: ∃wv,wv=wr:=⟨_,rfl⟩
 subst hwv;obtain⟨k1,hk1⟩: ∃k1,k1=gk:=⟨_,rfl⟩
 subst hk1;by_cases hlt:i<n;rotate_left
 ·obtain rfl:i=n:=by omega
  have x1: ¬(i:Int)<i:=by omega
  obtain rfl:xv=R:=by have h_:=HRI.out;rw[List.drop_of_length_le (by rw[HL.out];exact Nat.le_refl _)]at h_;exact h_
  clear hik hi hlt;go_wp2;go_ret
  exact⟨rfl,HBWA.out.trans (HB.out.mono HBWA.out.size)⟩
 obtain⟨x,hx⟩:=glZ l (i) (by rw[HL.out];exact hlt);obtain⟨bk,off,rfl,d0,d1⟩:=(HS.out wv HB.out).sect hx;have HRX:=zq ((reach_at17 (age:=age) (n:=xv) hx).symm.trans HRI.out);have y0:(0:Int)<=i:=by omega
 have y1:(i:Int)<n:=by omega
 have HIN:=zq (show i<n/\n-i<=k1 from⟨hlt,hik⟩);clear hx hi hik hlt HRI;obtain⟨xt,xm⟩:=x;dsimp only at*;go_upto_region 5 with fail;obtain⟨wb,hwb⟩:=geZ (wv.alloc (.cells #[.int .i64 xt,.int .i64 xm] 66));rw[hwb];have hbb:Below wv.heap.size wv wb:=by rw[<-hwb];exact bA
 have hH:Has wb wv.heap.size 66 #[.int .i64 xt,.int .i64 xm]:=by rw[<-hwb];exact Has.made _ _ _
 have HBB:=tB HB hbb;obtain⟨gs,hgs⟩: ∃g,wv.heap.size=g:=⟨_,rfl⟩
 rw[hgs]at hH;simp only[hgs];have c0:wb.cell? ⟨gs,0,none⟩=some (.int .i64 xt):=hH.cell 0;have c1:wb.cell? ⟨gs,1,none⟩=some (.int .i64 xm):=hH.cell 1;clear hwb hbb hH hgs d0 d1 HB;by_cases z1:age<xm
 ·rw[if_pos z1]at HRX
  have z1': ¬xm<=age:=by omega
  go_wp2;go_roundg (k1-1)
  case measure=>have:=HIN.out;omega
  case rel=>exact⟨i+1,xt,by have:=HIN.out;omega,by have:=HIN.out;omega,by first|go_num|(rw[IntWalk.wrap64_in _ (by have h1_:=HIN.out;have h2_:=HNB.out;omega)];go_num),rfl,HRX,HBB⟩
 ·rw[if_neg z1]at HRX
  have z1':xm<=age:=by omega
  obtain rfl:xv=R:=HRX.out;go_wp2;go_ret
  exact⟨rfl,HBWA.out.trans (HBB.out.mono HBWA.out.size)⟩
end
section
open Go.RowKit
open Go.Great
open Go.Sort (putRowK HoldsK size_putRowK alloc_eq_grow grow_grow flatK get_flatK)
instance : Inhabited Bd4 := ⟨⟨0, 0, 0, 0⟩⟩
end
section
open Go.RowKit Go.Shelf
open Go.Great
attribute [local go_sem] Oper.semAt_some
theorem step_pour15 {P:Program}{ops:Array Oper}{o:Oper}{a:Act}{w:World}{K:Act->World->Prop}{Q:Exit->Act->World->Prop}{E:Prop}(hgd:o.guard=none)(s x:Operand)(t:TypeId)
  (ho:o.op= .call {callee:= .builtin .append,args:=#[s,x],argTypes:=#[t,t]})
  (base:Nat) (e:TypeId) (z:Value) (size bytes:Nat) (ht:P.underlying t=some (.slice e)) (hinfo:(P.info? e).map (fun i=>(i.zero,i.size,i.bytes))=some (some z,size,bytes))
  (hzs:z.cells.size=size) (hsz:0<size)
  (A:Option Addr) (n c:Nat) (xs:List Value) (hs:a.eval s= .slice A n c) (hown:Hid (w.ownsRow base e size (.slice A n c) n xs))
  (B:Option Addr) (m cc:Nat) (news:List Value) (hx:a.eval x= .slice B m cc) (hl:Hid (Sl w size B m cc news)) (h1:Hid (∀u∈news,u.oneCell'=true))
  (hb:Hid (n+m<=maxLen/\(n+m)*bytes<=140737488355328/\base<=w.heap.size))
  (h: ∀A' c' w',Hid (w'.ownsRow base e size (.slice A' (n+m) c') (n+m) (xs++news))->Hid (w.grownBy w' (Value.ownBlock (.slice A n c)))->
   K (a.put o.dst (.slice A' (n+m) c')) w'):if Region.wanted o (yielded ops a.tmps)=true then Oper.wp P o a w K Q else E:=by
 cases B with
 |none=>
  obtain⟨rfl,rfl⟩:=hl.out.2.1 rfl;have e0:news=[]:=List.eq_nil_of_length_eq_zero (by simpa using hl.out.1);subst e0;have hw:Region.wanted o (yielded ops a.tmps)=true:=by simp[Region.wanted,hgd]
  rw[if_pos hw];obtain⟨i,hi,_⟩:=info_parts hinfo;have hr:=run_append_owned_none (P:=P) (w:=w) base t o.type e i size ht hi (.slice A n c) n xs hown.out;unfold Oper.wp execOp;simp only[ho,resolve,invoke,builtin,Sem.run_bind,Sem.run_pure,Result.andThen_ok,List.map_toArray,List.map_cons,List.map_nil,hs,hx,hr];exact h A c w (show Hid _ by simpa using hown) (qbB _ _)
 |some ad=>
  exact step_push hgd s x t ho base e z size bytes ht hinfo hzs hsz A n c xs hs hown ad m cc news hx hl.out.1 (hl.out.2.2 ad rfl) h1 hb h
def KeepT (t:TypeId)(V V':World):Prop:= ∀g cs,Has V g t cs->Has V' g t cs
theorem KeepT.trans {t:TypeId}{A B C:World}(h:KeepT t A B)(k:KeepT t B C):KeepT t A C:=fun g cs x=>k g cs (h g cs x)
theorem KeepT.putObj {t:TypeId}(W:World)(l:Nat)(o o':Obj)(h:W.heap[l]?=some o)(hc:o.isCells=false):KeepT t W (W.putObj l o'):=fun g cs x=>by
 unfold Has at x⊢;by_cases e:g=l
 ·subst e
  rw[h]at x
  cases x
  cases hc
 ·rw[World.putObj_heap_other e]
  exact x
theorem KeepT.alloc {t:TypeId}(W:World)(o:Obj):KeepT t W (W.alloc o):=fun _ _ x=>x.beside o
end
section
open Go.RowKit Go.Shelf
attribute [local go_sem] Oper.semAt_some
end
end Go.Proofs.YtahadmeilajdgaaGreatDoor
