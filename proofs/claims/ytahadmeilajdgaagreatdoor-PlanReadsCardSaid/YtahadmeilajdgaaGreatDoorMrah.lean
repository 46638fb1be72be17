/-
  Our own text, joined.
-/
import Derived.Test.YtahadmeilajdgaaGreatDoorMrag
import Derived.Test.YtahadmeilajdgaaGreatDoorMraa
import Derived.Test.YtahadmeilajdgaaGreatDoorMrad
import Derived.Test.YtahadmeilajdgaaGreatDoorMrae
import Derived.BigQuiet
import Derived.IntWalk
namespace Go.Proofs.YtahadmeilajdgaaGreatDoor
set_option maxRecDepth 100000
set_option maxHeartbeats 8000000
section
open Go.RowKit
open Go.Great
def idxA {α:Type}(p:α->Bool):List α->Nat->Int
 |[],_=> -1
 |x::r,k=>if p x=true then(k:Int)else idxA p r (k+1)
def idxL {α:Type}(p:α->Bool)(l:List α):Int:=idxA p l 0
theorem qbK {α:Type}(p:α->Bool)(l:List α)(k:Nat):(idxA p l k= -1/\ ∀(i:Nat) (y:α),l[i]?=some y->p y=false)\/ ∃(j:Nat) (x:α),l[j]?=some x/\p x=true/\(∀(i:Nat) (y:α),i<j->l[i]?=some y->p y=false)/\idxA p l k=((k+j:Nat):Int):=by
 induction l generalizing k with
 |nil=>exact .inl ⟨rfl,fun i y h=>by simp at h⟩
 |cons x r ih=>
  unfold idxA;by_cases hx:p x=true
  ·rw[if_pos hx]
   exact .inr ⟨0,x,rfl,hx,fun i y h=>absurd h (by omega),rfl⟩
  ·rw[if_neg hx]
   have hx':p x=false:=by simpa using hx
   rcases ih (k+1)with⟨h1,h2⟩|⟨j,y,h1,h2,h3,h4⟩
   ·refine .inl ⟨h1,fun i y h=>?_⟩
    cases i with
    |zero=>simp at h;exact h▸hx'
    |succ m=>exact h2 m y (by simpa using h)
   ·refine .inr ⟨j+1,y,by simpa using h1,h2,fun i z hi hz=>?_,by rw[h4];congr 1;omega⟩
    cases i with
    |zero=>simp at hz;exact hz▸hx'
    |succ m=>exact h3 m z (by omega) (by simpa using hz)
theorem qbC {α:Type}{p:α->Bool}{l:List α}{j:Nat}{x:α}(hx:l[j]?=some x)(hp:p x=true)(hno: ∀(i:Nat) (y:α),i<j->l[i]?=some y->p y=false):idxL p l=j:=by
 rcases qbK p l 0 with⟨_,h2⟩|⟨m,y,h1,h2,h3,h4⟩
 ·rw[h2 j x hx]at hp;cases hp
 ·unfold idxL
  rw[h4]
  rcases Nat.lt_trichotomy m j with h|h|h
  ·rw[hno m y h h1]at h2;cases h2
  ·rw[h];congr 1;omega
  ·rw[h3 j x h hx]at hp;cases hp
theorem qbg {α:Type}{p:α->Bool}{l:List α}(hno: ∀(i:Nat) (y:α),i<l.length->l[i]?=some y->p y=false):idxL p l= -1:=by
 rcases qbK p l 0 with⟨h1,_⟩|⟨m,y,h1,h2,_,_⟩
 ·exact h1
 ·rw[hno m y (List.getElem?_eq_some_iff.1 h1).1 h1]at h2;cases h2
theorem qbq {α:Type}(p:α->Bool)(l:List α):decide (0<=idxL p l)=l.any p:=by
 rw[Bool.eq_iff_iff,decide_eq_true_eq,List.any_eq_true];unfold idxL
 rcases qbK p l 0 with⟨h1,h2⟩|⟨m,y,h1,h2,_,h4⟩
 ·rw[h1]
  refine⟨fun h=>absurd h (by decide),?_⟩;rintro⟨x,hx,e⟩;obtain⟨i,hi,rfl⟩:=List.getElem_of_mem hx;rw[h2 i _ (List.getElem?_eq_getElem hi)]at e;cases e
 ·rw[h4]
  exact⟨fun _=>⟨y,List.mem_of_getElem? h1,h2⟩,fun _=>by omega⟩
theorem otfb_any (b:Bl3)(id:Int)(g:Nat)(w:World)(hc:w.cell? ⟨g,0,none⟩=some (.int .i64 id)):
  Calls Tryz.prog 207 #[.agg (blA b),.pointer (some ⟨g,0,none⟩)] w fun e w'=>e= .returned (.bool (b.id==id))/\Below w.heap.size w w':=by
 obtain⟨wa,hwa,hbwa,HWA,HBWA,h0⟩:=bx1Z w 151 (blA b);have c0:wa.cell? ⟨w.heap.size,0,none⟩=some (.int .i64 b.id):=h0.cell 0;have e0:wa.cell? ⟨g,0,none⟩=some (.int .i64 id):=(hbwa.cell (qag hc)).trans hc;clear hwa hbwa h0 hc;obtain⟨q,hq⟩:=geZ ((b.id==id));rw[hq];unfold blA at*;go_enter Tryz.func207,Tryz.ntmps207;go_upto_region 1 with fail;rw[HWA.out];clear HWA;go_wp2;go_ret
 exact⟨by first|rfl|(rw[hq];done)|simp_all,HBWA.out⟩
theorem otfr_any (r:Rt3)(v:Value)(id:Int)(g:Nat)(w:World)(hc:w.cell? ⟨g,0,none⟩=some (.int .i64 id)):
  Calls Tryz.prog 166 #[.agg #[.int .i64 r.id,v,.int .i64 r.gap,.int .i64 r.timer],.pointer (some ⟨g,0,none⟩)] w fun e w'=>e= .returned (.bool (r.id==id))/\Below w.heap.size w w':=by
 obtain⟨wa,hwa,hbwa,HWA,HBWA,h0⟩:=bx1Z w 75 #[.int .i64 r.id,v,.int .i64 r.gap,.int .i64 r.timer];have c0:wa.cell? ⟨w.heap.size,0,none⟩=some (.int .i64 r.id):=h0.cell 0;have e0:wa.cell? ⟨g,0,none⟩=some (.int .i64 id):=(hbwa.cell (qag hc)).trans hc;clear hwa hbwa h0 hc;obtain⟨q,hq⟩:=geZ ((r.id==id));rw[hq];go_enter Tryz.func166,Tryz.ntmps166;go_upto_region 1 with fail;rw[HWA.out];clear HWA;go_wp2;go_ret
 exact⟨by first|rfl|(rw[hq];done)|simp_all,HBWA.out⟩
theorem otre_any (x:St3)(d:Int)(g:Nat)(w:World)(hc:w.cell? ⟨g,0,none⟩=some (.int .i64 d)):
  Calls Tryz.prog 208 #[.agg (stA13 x),.pointer (some ⟨g,0,none⟩)] w fun e w'=>e= .returned (.bool (x.edge==d))/\Below w.heap.size w w':=by
 obtain⟨wa,hwa,hbwa,HWA,HBWA,h0⟩:=bx1Z w 30 (stA13 x);have c0:wa.cell? ⟨w.heap.size,0,none⟩=some (.int .i64 x.edge):=h0.cell 0;have e0:wa.cell? ⟨g,0,none⟩=some (.int .i64 d):=(hbwa.cell (qag hc)).trans hc;clear hwa hbwa h0 hc;obtain⟨q,hq⟩:=geZ ((x.edge==d));rw[hq];unfold stA13 at*;go_enter Tryz.func208,Tryz.ntmps208;go_upto_region 1 with fail;rw[HWA.out];clear HWA;go_wp2;go_ret
 exact⟨by first|rfl|(rw[hq];done)|simp_all,HBWA.out⟩
theorem othb_any (b:Bl3)(d:Int)(g:Nat)(w:World)(hc:w.cell? ⟨g,0,none⟩=some (.int .i64 d)):
  Calls Tryz.prog 210 #[.agg (blA b),.pointer (some ⟨g,0,none⟩)] w fun e w'=>e= .returned (.bool (b.edge==d))/\Below w.heap.size w w':=by
 obtain⟨wa,hwa,hbwa,HWA,HBWA,h0⟩:=bx1Z w 151 (blA b);have c0:wa.cell? ⟨w.heap.size,1,none⟩=some (.int .i64 b.edge):=h0.cell 1;have e0:wa.cell? ⟨g,0,none⟩=some (.int .i64 d):=(hbwa.cell (qag hc)).trans hc;clear hwa hbwa h0 hc;obtain⟨q,hq⟩:=geZ ((b.edge==d));rw[hq];unfold blA at*;go_enter Tryz.func210,Tryz.ntmps210;go_upto_region 1 with fail;rw[HWA.out];clear HWA;go_wp2;go_ret
 exact⟨by first|rfl|(rw[hq];done)|simp_all,HBWA.out⟩
theorem otee_any (t:Tp3)(a:TpA)(x:St3)(g:Nat)(w:World)(hc:Has w g 27 (tpC t a))(hl:t.edges.length<=100):
  Calls Tryz.prog 218 #[.agg (stA13 x),.pointer (some ⟨g,0,none⟩)] w fun e w'=>e= .returned (.bool (!edgeB t x.edge))/\Below w.heap.size w w':=by
 obtain⟨wa,hwa,hbwa,HWA,HBWA,h0⟩:=bx1Z w 30 (stA13 x);have c0:wa.cell? ⟨w.heap.size,0,none⟩=some (.int .i64 x.edge):=h0.cell 0;have HP:=zq (hc.u hbwa);have H:=zq (fun W=>qeA t a x.edge W hl);clear hwa hbwa h0 hc;generalize edgeB t x.edge=q at*;unfold stA13 at*;go_enter Tryz.func218,Tryz.ntmps218;go_upto_region 1 with fail;rw[HWA.out];clear HWA;go_wp2_with (with_reducible refine ldZ 4 HP.out ?_);refine(H.out _).mono ?_;rintro e w1 ⟨rfl,hb1⟩;have HB1:=tB HBWA hb1;clear hb1;go_wp2;go_ret
 exact⟨rfl,HB1.out⟩
theorem otck_any (x:Int)(w:World):
  Calls Tryz.prog 100 #[.int .i64 x] w fun e w'=>e= .returned (.bool (!qaq x 1 1000000))/\Below w.heap.size w w':=by
 have H:=zq (qbH x 1 1000000 w);have HB:=zq (Below.refl w.heap.size w);generalize qaq x 1 1000000=q at*;go_enter Tryz.func100,Tryz.ntmps100;go_wp2_with fail;refine H.out.mono ?_;rintro e w1 ⟨rfl,rfl⟩;go_wp2;go_ret
 exact⟨rfl,HB.out⟩
theorem SlO.len13 {α:Type}{f:α->List Value}{k:Nat}{w:World}{A:Option Addr}{n c:Nat}{l:List α}(h:SlO f k w A n c l):l.length=n:=h.1
theorem RtsR.len13 {w:World}{A:Option Addr}{n c:Nat}{rs:List Rt3}(h:RtsR w A n c rs):rs.length=n:=by
 obtain⟨l,rfl,h2,_⟩:=h;rw[List.length_map];exact h2.1
theorem SlO.int13 {w:World}{A:Option Addr}{n c:Nat}{l:List Int}(h:SlO inC 1 w A n c l){j:Nat}{x:Int}(hx:l[j]?=some x): ∃b off,A=some ⟨b,off,none⟩/\w.cell? ⟨b,off+j,none⟩=some (.int .i64 x):=by
 obtain⟨b,off,e,hc⟩:=h.at_ (fun _=>rfl) (by decide) hx;exact⟨b,off,e,by simpa using hc 0 _ rfl⟩
theorem oix_fb (p:Bl3->Bool)(l:List Bl3)(A:Option Addr)(n c:Nat)(g:Nat)(w:World)(hs:SlO blC 3 w A n c l)(hbig:n<=1048576)
  (HE:Hid (∀(x:Bl3) W,Below w.heap.size w W->Calls Tryz.prog 207 #[.agg (blA x),.pointer (some ⟨g,0,none⟩)] W fun e w'=>e= .returned (.bool (p x))/\Below W.heap.size W w')):
  Calls Tryz.prog 160 #[.slice A n c,.func (.func 207) #[] #[.pointer (some ⟨g,0,none⟩)]] w fun e w'=>e= .returned (.int .i64 (idxL p l))/\Below w.heap.size w w':=by
 try unfold blA at HE
 try unfold stA13 at HE
 have HN:Hid (l.length=n):=zq hs.len13;have HW:=zq hs;clear hs;have x0:(0:Int)<=n:=by omega
 obtain⟨R,hR⟩:=geZ (idxL p l);have HR:=zq hR;rw[hR];clear hR;go_enter Tryz.func160,Tryz.ntmps160;go_wp2;go_loopg [8] n (fun kk v wl=> ∃j:Nat,j<=n/\n-j<=kk/\v= .int .i64 j/\Hid (∀i x,i<j->l[i]?=some x->p x=false)/\Hid (Below w.heap.size w wl))
 case atStart=>exact⟨0,by omega,by omega,rfl,zq fun i x h=>absurd h (by omega),zq (Below.refl _ _)⟩
 obtain⟨j,hj,hjk,rfl,HNO,HBL⟩:=hrel;by_cases hlt:j<n
 ·obtain⟨x,hx⟩:=glZ l (j) (by rw[HN.out];omega)
  obtain⟨bk,off,rfl,d0,d1,d2⟩:=(HW.out.under HBL.out).bal hx;have HX:=zq hx;have y0:(0:Int)<=j:=by omega
  have y1:(j:Int)<n:=by omega
  have HC:=zq (HE.out x wr HBL.out);clear hx;generalize hb:p x=b at*;have HBE:=zq hb;clear hb
  cases b with
  |true=>
   have HF:Hid (R=j):=zq (by rw[<-HR.out];exact qbC HX.out HBE.out HNO.out);go_upto_region 4 with fail;go_wp2_with fail;refine HC.out.mono ?_;rintro e w1 ⟨rfl,hb1⟩;have HB1:=tB HBL hb1;clear hb1 d0 d1 d2 HBE HNO;go_wp2;go_ret
   exact⟨by rw[HF.out];rfl,HB1.out⟩
  |false=>
   go_upto_region 4 with fail;go_wp2_with fail;refine HC.out.mono ?_;rintro e w1 ⟨rfl,hb1⟩;have HB1:=tB HBL hb1;have HN2:Hid (∀i y,i<j+1->l[i]?=some y->p y=false):=zq fun i y hi hy=>by
    by_cases h:i=j
    ·subst h;rw[HX.out]at hy;cases hy;exact HBE.out
    ·exact HNO.out i y (by omega) hy
   clear hb1 d0 d1 d2 HBE HNO;go_wp2;go_roundg (gk-1)
   case measure=>omega
   case rel=>exact⟨j+1,by omega,by omega,by go_num,HN2,HB1⟩
 ·have y1: ¬(j:Int)<n:=by omega
  have HF:Hid (R= -1):=zq (by rw[<-HR.out];exact qbg fun i y hi hy=>HNO.out i y (by have:=HN.out;omega) hy);go_wp2;go_ret
  exact⟨by rw[HF.out];rfl,HBL.out⟩
theorem oix_hb (p:Bl3->Bool)(l:List Bl3)(A:Option Addr)(n c:Nat)(g:Nat)(w:World)(hs:SlO blC 3 w A n c l)(hbig:n<=1048576)
  (HE:Hid (∀(x:Bl3) W,Below w.heap.size w W->Calls Tryz.prog 210 #[.agg (blA x),.pointer (some ⟨g,0,none⟩)] W fun e w'=>e= .returned (.bool (p x))/\Below W.heap.size W w')):
  Calls Tryz.prog 160 #[.slice A n c,.func (.func 210) #[] #[.pointer (some ⟨g,0,none⟩)]] w fun e w'=>e= .returned (.int .i64 (idxL p l))/\Below w.heap.size w w':=by
 try unfold blA at HE
 try unfold stA13 at HE
 have HN:Hid (l.length=n):=zq hs.len13;have HW:=zq hs;clear hs;have x0:(0:Int)<=n:=by omega
 obtain⟨R,hR⟩:=geZ (idxL p l);have HR:=zq hR;rw[hR];clear hR;go_enter Tryz.func160,Tryz.ntmps160;go_wp2;go_loopg [8] n (fun kk v wl=> ∃j:Nat,j<=n/\n-j<=kk/\v= .int .i64 j/\Hid (∀i x,i<j->l[i]?=some x->p x=false)/\Hid (Below w.heap.size w wl))
 case atStart=>exact⟨0,by omega,by omega,rfl,zq fun i x h=>absurd h (by omega),zq (Below.refl _ _)⟩
 obtain⟨j,hj,hjk,rfl,HNO,HBL⟩:=hrel;by_cases hlt:j<n
 ·obtain⟨x,hx⟩:=glZ l (j) (by rw[HN.out];omega)
  obtain⟨bk,off,rfl,d0,d1,d2⟩:=(HW.out.under HBL.out).bal hx;have HX:=zq hx;have y0:(0:Int)<=j:=by omega
  have y1:(j:Int)<n:=by omega
  have HC:=zq (HE.out x wr HBL.out);clear hx;generalize hb:p x=b at*;have HBE:=zq hb;clear hb
  cases b with
  |true=>
   have HF:Hid (R=j):=zq (by rw[<-HR.out];exact qbC HX.out HBE.out HNO.out);go_upto_region 4 with fail;go_wp2_with fail;refine HC.out.mono ?_;rintro e w1 ⟨rfl,hb1⟩;have HB1:=tB HBL hb1;clear hb1 d0 d1 d2 HBE HNO;go_wp2;go_ret
   exact⟨by rw[HF.out];rfl,HB1.out⟩
  |false=>
   go_upto_region 4 with fail;go_wp2_with fail;refine HC.out.mono ?_;rintro e w1 ⟨rfl,hb1⟩;have HB1:=tB HBL hb1;have HN2:Hid (∀i y,i<j+1->l[i]?=some y->p y=false):=zq fun i y hi hy=>by
    by_cases h:i=j
    ·subst h;rw[HX.out]at hy;cases hy;exact HBE.out
    ·exact HNO.out i y (by omega) hy
   clear hb1 d0 d1 d2 HBE HNO;go_wp2;go_roundg (gk-1)
   case measure=>omega
   case rel=>exact⟨j+1,by omega,by omega,by go_num,HN2,HB1⟩
 ·have y1: ¬(j:Int)<n:=by omega
  have HF:Hid (R= -1):=zq (by rw[<-HR.out];exact qbg fun i y hi hy=>HNO.out i y (by have:=HN.out;omega) hy);go_wp2;go_ret
  exact⟨by rw[HF.out];rfl,HBL.out⟩
theorem oix_fr (p:Rt3->Bool)(l:List Rt3)(A:Option Addr)(n c:Nat)(g:Nat)(w:World)(hs:RtsR w A n c l)(hbig:n<=1048576)
  (HE:Hid (∀(x:Rt3) (PA:Option Addr) (pc:Nat) W,Below w.heap.size w W->Calls Tryz.prog 166 #[.agg #[.int .i64 x.id,.slice PA x.path.length pc,.int .i64 x.gap,.int .i64 x.timer],.pointer (some ⟨g,0,none⟩)] W fun e w'=>e= .returned (.bool (p x))/\Below W.heap.size W w')):
  Calls Tryz.prog 165 #[.slice A n c,.func (.func 166) #[] #[.pointer (some ⟨g,0,none⟩)]] w fun e w'=>e= .returned (.int .i64 (idxL p l))/\Below w.heap.size w w':=by
 try unfold blA at HE
 try unfold stA13 at HE
 have HN:Hid (l.length=n):=zq hs.len13;have HW:=zq hs;clear hs;have x0:(0:Int)<=n:=by omega
 obtain⟨R,hR⟩:=geZ (idxL p l);have HR:=zq hR;rw[hR];clear hR;go_enter Tryz.func165,Tryz.ntmps165;go_wp2;go_loopg [8] n (fun kk v wl=> ∃j:Nat,j<=n/\n-j<=kk/\v= .int .i64 j/\Hid (∀i x,i<j->l[i]?=some x->p x=false)/\Hid (Below w.heap.size w wl))
 case atStart=>exact⟨0,by omega,by omega,rfl,zq fun i x h=>absurd h (by omega),zq (Below.refl _ _)⟩
 obtain⟨j,hj,hjk,rfl,HNO,HBL⟩:=hrel;by_cases hlt:j<n
 ·obtain⟨x,hx⟩:=glZ l (j) (by rw[HN.out];omega)
  obtain⟨bk,off,PA,pc,rfl,_,d0,d1,d2,d3⟩:=(HW.out.under HBL.out).at_ hx;have HX:=zq hx;have y0:(0:Int)<=j:=by omega
  have y1:(j:Int)<n:=by omega
  have HC:=zq (HE.out x PA pc wr HBL.out);clear hx;generalize hb:p x=b at*;have HBE:=zq hb;clear hb
  cases b with
  |true=>
   have HF:Hid (R=j):=zq (by rw[<-HR.out];exact qbC HX.out HBE.out HNO.out);go_upto_region 4 with fail;go_wp2_with fail;refine HC.out.mono ?_;rintro e w1 ⟨rfl,hb1⟩;have HB1:=tB HBL hb1;clear hb1 d0 d1 d2 d3 HBE HNO;go_wp2;go_ret
   exact⟨by rw[HF.out];rfl,HB1.out⟩
  |false=>
   go_upto_region 4 with fail;go_wp2_with fail;refine HC.out.mono ?_;rintro e w1 ⟨rfl,hb1⟩;have HB1:=tB HBL hb1;have HN2:Hid (∀i y,i<j+1->l[i]?=some y->p y=false):=zq fun i y hi hy=>by
    by_cases h:i=j
    ·subst h;rw[HX.out]at hy;cases hy;exact HBE.out
    ·exact HNO.out i y (by omega) hy
   clear hb1 d0 d1 d2 d3 HBE HNO;go_wp2;go_roundg (gk-1)
   case measure=>omega
   case rel=>exact⟨j+1,by omega,by omega,by go_num,HN2,HB1⟩
 ·have y1: ¬(j:Int)<n:=by omega
  have HF:Hid (R= -1):=zq (by rw[<-HR.out];exact qbg fun i y hi hy=>HNO.out i y (by have:=HN.out;omega) hy);go_wp2;go_ret
  exact⟨by rw[HF.out];rfl,HBL.out⟩
theorem oix_ee (p:St3->Bool)(l:List St3)(A:Option Addr)(n c:Nat)(g:Nat)(w:World)(hs:SlO stC 2 w A n c l)(hbig:n<=1048576)
  (HE:Hid (∀(x:St3) W,Below w.heap.size w W->Calls Tryz.prog 218 #[.agg (stA13 x),.pointer (some ⟨g,0,none⟩)] W fun e w'=>e= .returned (.bool (p x))/\Below W.heap.size W w')):
  Calls Tryz.prog 181 #[.slice A n c,.func (.func 218) #[] #[.pointer (some ⟨g,0,none⟩)]] w fun e w'=>e= .returned (.int .i64 (idxL p l))/\Below w.heap.size w w':=by
 try unfold blA at HE
 try unfold stA13 at HE
 have HN:Hid (l.length=n):=zq hs.len13;have HW:=zq hs;clear hs;have x0:(0:Int)<=n:=by omega
 obtain⟨R,hR⟩:=geZ (idxL p l);have HR:=zq hR;rw[hR];clear hR;go_enter Tryz.func181,Tryz.ntmps181;go_wp2;go_loopg [8] n (fun kk v wl=> ∃j:Nat,j<=n/\n-j<=kk/\v= .int .i64 j/\Hid (∀i x,i<j->l[i]?=some x->p x=false)/\Hid (Below w.heap.size w wl))
 case atStart=>exact⟨0,by omega,by omega,rfl,zq fun i x h=>absurd h (by omega),zq (Below.refl _ _)⟩
 obtain⟨j,hj,hjk,rfl,HNO,HBL⟩:=hrel;by_cases hlt:j<n
 ·obtain⟨x,hx⟩:=glZ l (j) (by rw[HN.out];omega)
  obtain⟨bk,off,rfl,d0,d1⟩:=(HW.out.under HBL.out).step hx;have HX:=zq hx;have y0:(0:Int)<=j:=by omega
  have y1:(j:Int)<n:=by omega
  have HC:=zq (HE.out x wr HBL.out);clear hx;generalize hb:p x=b at*;have HBE:=zq hb;clear hb
  cases b with
  |true=>
   have HF:Hid (R=j):=zq (by rw[<-HR.out];exact qbC HX.out HBE.out HNO.out);go_upto_region 4 with fail;go_wp2_with fail;refine HC.out.mono ?_;rintro e w1 ⟨rfl,hb1⟩;have HB1:=tB HBL hb1;clear hb1 d0 d1 HBE HNO;go_wp2;go_ret
   exact⟨by rw[HF.out];rfl,HB1.out⟩
  |false=>
   go_upto_region 4 with fail;go_wp2_with fail;refine HC.out.mono ?_;rintro e w1 ⟨rfl,hb1⟩;have HB1:=tB HBL hb1;have HN2:Hid (∀i y,i<j+1->l[i]?=some y->p y=false):=zq fun i y hi hy=>by
    by_cases h:i=j
    ·subst h;rw[HX.out]at hy;cases hy;exact HBE.out
    ·exact HNO.out i y (by omega) hy
   clear hb1 d0 d1 HBE HNO;go_wp2;go_roundg (gk-1)
   case measure=>omega
   case rel=>exact⟨j+1,by omega,by omega,by go_num,HN2,HB1⟩
 ·have y1: ¬(j:Int)<n:=by omega
  have HF:Hid (R= -1):=zq (by rw[<-HR.out];exact qbg fun i y hi hy=>HNO.out i y (by have:=HN.out;omega) hy);go_wp2;go_ret
  exact⟨by rw[HF.out];rfl,HBL.out⟩
theorem oix_re (p:St3->Bool)(l:List St3)(A:Option Addr)(n c:Nat)(g:Nat)(w:World)(hs:SlO stC 2 w A n c l)(hbig:n<=1048576)
  (HE:Hid (∀(x:St3) W,Below w.heap.size w W->Calls Tryz.prog 208 #[.agg (stA13 x),.pointer (some ⟨g,0,none⟩)] W fun e w'=>e= .returned (.bool (p x))/\Below W.heap.size W w')):
  Calls Tryz.prog 181 #[.slice A n c,.func (.func 208) #[] #[.pointer (some ⟨g,0,none⟩)]] w fun e w'=>e= .returned (.int .i64 (idxL p l))/\Below w.heap.size w w':=by
 try unfold blA at HE
 try unfold stA13 at HE
 have HN:Hid (l.length=n):=zq hs.len13;have HW:=zq hs;clear hs;have x0:(0:Int)<=n:=by omega
 obtain⟨R,hR⟩:=geZ (idxL p l);have HR:=zq hR;rw[hR];clear hR;go_enter Tryz.func181,Tryz.ntmps181;go_wp2;go_loopg [8] n (fun kk v wl=> ∃j:Nat,j<=n/\n-j<=kk/\v= .int .i64 j/\Hid (∀i x,i<j->l[i]?=some x->p x=false)/\Hid (Below w.heap.size w wl))
 case atStart=>exact⟨0,by omega,by omega,rfl,zq fun i x h=>absurd h (by omega),zq (Below.refl _ _)⟩
 obtain⟨j,hj,hjk,rfl,HNO,HBL⟩:=hrel;by_cases hlt:j<n
 ·obtain⟨x,hx⟩:=glZ l (j) (by rw[HN.out];omega)
  obtain⟨bk,off,rfl,d0,d1⟩:=(HW.out.under HBL.out).step hx;have HX:=zq hx;have y0:(0:Int)<=j:=by omega
  have y1:(j:Int)<n:=by omega
  have HC:=zq (HE.out x wr HBL.out);clear hx;generalize hb:p x=b at*;have HBE:=zq hb;clear hb
  cases b with
  |true=>
   have HF:Hid (R=j):=zq (by rw[<-HR.out];exact qbC HX.out HBE.out HNO.out);go_upto_region 4 with fail;go_wp2_with fail;refine HC.out.mono ?_;rintro e w1 ⟨rfl,hb1⟩;have HB1:=tB HBL hb1;clear hb1 d0 d1 HBE HNO;go_wp2;go_ret
   exact⟨by rw[HF.out];rfl,HB1.out⟩
  |false=>
   go_upto_region 4 with fail;go_wp2_with fail;refine HC.out.mono ?_;rintro e w1 ⟨rfl,hb1⟩;have HB1:=tB HBL hb1;have HN2:Hid (∀i y,i<j+1->l[i]?=some y->p y=false):=zq fun i y hi hy=>by
    by_cases h:i=j
    ·subst h;rw[HX.out]at hy;cases hy;exact HBE.out
    ·exact HNO.out i y (by omega) hy
   clear hb1 d0 d1 HBE HNO;go_wp2;go_roundg (gk-1)
   case measure=>omega
   case rel=>exact⟨j+1,by omega,by omega,by go_num,HN2,HB1⟩
 ·have y1: ¬(j:Int)<n:=by omega
  have HF:Hid (R= -1):=zq (by rw[<-HR.out];exact qbg fun i y hi hy=>HNO.out i y (by have:=HN.out;omega) hy);go_wp2;go_ret
  exact⟨by rw[HF.out];rfl,HBL.out⟩
theorem oix_ck (p:Int->Bool)(l:List Int)(A:Option Addr)(n c:Nat)(w:World)(hs:SlO inC 1 w A n c l)(hbig:n<=1048576)
  (HE:Hid (∀(x:Int) W,Below w.heap.size w W->Calls Tryz.prog 100 #[.int .i64 x] W fun e w'=>e= .returned (.bool (p x))/\Below W.heap.size W w')):
  Calls Tryz.prog 173 #[.slice A n c,.func (.func 100) #[] #[]] w fun e w'=>e= .returned (.int .i64 (idxL p l))/\Below w.heap.size w w':=by
 try unfold blA at HE
 try unfold stA13 at HE
 have HN:Hid (l.length=n):=zq hs.len13;have HW:=zq hs;clear hs;have x0:(0:Int)<=n:=by omega
 obtain⟨R,hR⟩:=geZ (idxL p l);have HR:=zq hR;rw[hR];clear hR;go_enter Tryz.func173,Tryz.ntmps173;go_wp2;go_loopg [8] n (fun kk v wl=> ∃j:Nat,j<=n/\n-j<=kk/\v= .int .i64 j/\Hid (∀i x,i<j->l[i]?=some x->p x=false)/\Hid (Below w.heap.size w wl))
 case atStart=>exact⟨0,by omega,by omega,rfl,zq fun i x h=>absurd h (by omega),zq (Below.refl _ _)⟩
 obtain⟨j,hj,hjk,rfl,HNO,HBL⟩:=hrel;by_cases hlt:j<n
 ·obtain⟨x,hx⟩:=glZ l (j) (by rw[HN.out];omega)
  obtain⟨bk,off,rfl,d0⟩:=(HW.out.under HBL.out).int13 hx;have HX:=zq hx;have y0:(0:Int)<=j:=by omega
  have y1:(j:Int)<n:=by omega
  have HC:=zq (HE.out x wr HBL.out);clear hx;generalize hb:p x=b at*;have HBE:=zq hb;clear hb
  cases b with
  |true=>
   have HF:Hid (R=j):=zq (by rw[<-HR.out];exact qbC HX.out HBE.out HNO.out);go_upto_region 4 with fail;go_wp2_with fail;refine HC.out.mono ?_;rintro e w1 ⟨rfl,hb1⟩;have HB1:=tB HBL hb1;clear hb1 d0 HBE HNO;go_wp2;go_ret
   exact⟨by rw[HF.out];rfl,HB1.out⟩
  |false=>
   go_upto_region 4 with fail;go_wp2_with fail;refine HC.out.mono ?_;rintro e w1 ⟨rfl,hb1⟩;have HB1:=tB HBL hb1;have HN2:Hid (∀i y,i<j+1->l[i]?=some y->p y=false):=zq fun i y hi hy=>by
    by_cases h:i=j
    ·subst h;rw[HX.out]at hy;cases hy;exact HBE.out
    ·exact HNO.out i y (by omega) hy
   clear hb1 d0 HBE HNO;go_wp2;go_roundg (gk-1)
   case measure=>omega
   case rel=>exact⟨j+1,by omega,by omega,by go_num,HN2,HB1⟩
 ·have y1: ¬(j:Int)<n:=by omega
  have HF:Hid (R= -1):=zq (by rw[<-HR.out];exact qbg fun i y hi hy=>HNO.out i y (by have:=HN.out;omega) hy);go_wp2;go_ret
  exact⟨by rw[HF.out];rfl,HBL.out⟩
theorem oct_hb (p:Bl3->Bool)(l:List Bl3)(A:Option Addr)(n c:Nat)(g:Nat)(w:World)(hs:SlO blC 3 w A n c l)(hbig:n<=1048576)
  (HE:Hid (∀(x:Bl3) W,Below w.heap.size w W->Calls Tryz.prog 210 #[.agg (blA x),.pointer (some ⟨g,0,none⟩)] W fun e w'=>e= .returned (.bool (p x))/\Below W.heap.size W w')):
  Calls Tryz.prog 209 #[.slice A n c,.func (.func 210) #[] #[.pointer (some ⟨g,0,none⟩)]] w fun e w'=>e= .returned (.bool (l.any p))/\Below w.heap.size w w':=by
 have H:=zq (oix_hb p l A n c g w hs hbig HE);clear hs HE;rw[<-qbq];generalize idxL p l=R at*;go_enter Tryz.func209,Tryz.ntmps209;go_wp2_with fail;refine H.out.mono ?_;rintro e w1 ⟨rfl,hb1⟩;have HB1:=zq hb1;clear hb1 H;go_wp2;go_ret
 exact⟨rfl,HB1.out⟩
theorem oct_ee (p:St3->Bool)(l:List St3)(A:Option Addr)(n c:Nat)(g:Nat)(w:World)(hs:SlO stC 2 w A n c l)(hbig:n<=1048576)
  (HE:Hid (∀(x:St3) W,Below w.heap.size w W->Calls Tryz.prog 218 #[.agg (stA13 x),.pointer (some ⟨g,0,none⟩)] W fun e w'=>e= .returned (.bool (p x))/\Below W.heap.size W w')):
  Calls Tryz.prog 108 #[.slice A n c,.func (.func 218) #[] #[.pointer (some ⟨g,0,none⟩)]] w fun e w'=>e= .returned (.bool (l.any p))/\Below w.heap.size w w':=by
 have H:=zq (oix_ee p l A n c g w hs hbig HE);clear hs HE;rw[<-qbq];generalize idxL p l=R at*;go_enter Tryz.func108,Tryz.ntmps108;go_wp2_with fail;refine H.out.mono ?_;rintro e w1 ⟨rfl,hb1⟩;have HB1:=zq hb1;clear hb1 H;go_wp2;go_ret
 exact⟨rfl,HB1.out⟩
theorem oct_re (p:St3->Bool)(l:List St3)(A:Option Addr)(n c:Nat)(g:Nat)(w:World)(hs:SlO stC 2 w A n c l)(hbig:n<=1048576)
  (HE:Hid (∀(x:St3) W,Below w.heap.size w W->Calls Tryz.prog 208 #[.agg (stA13 x),.pointer (some ⟨g,0,none⟩)] W fun e w'=>e= .returned (.bool (p x))/\Below W.heap.size W w')):
  Calls Tryz.prog 108 #[.slice A n c,.func (.func 208) #[] #[.pointer (some ⟨g,0,none⟩)]] w fun e w'=>e= .returned (.bool (l.any p))/\Below w.heap.size w w':=by
 have H:=zq (oix_re p l A n c g w hs hbig HE);clear hs HE;rw[<-qbq];generalize idxL p l=R at*;go_enter Tryz.func108,Tryz.ntmps108;go_wp2_with fail;refine H.out.mono ?_;rintro e w1 ⟨rfl,hb1⟩;have HB1:=zq hb1;clear hb1 H;go_wp2;go_ret
 exact⟨rfl,HB1.out⟩
theorem oct_ck (p:Int->Bool)(l:List Int)(A:Option Addr)(n c:Nat)(w:World)(hs:SlO inC 1 w A n c l)(hbig:n<=1048576)
  (HE:Hid (∀(x:Int) W,Below w.heap.size w W->Calls Tryz.prog 100 #[.int .i64 x] W fun e w'=>e= .returned (.bool (p x))/\Below W.heap.size W w')):
  Calls Tryz.prog 99 #[.slice A n c,.func (.func 100) #[] #[]] w fun e w'=>e= .returned (.bool (l.any p))/\Below w.heap.size w w':=by
 have H:=zq (oix_ck p l A n c w hs hbig HE);clear hs HE;rw[<-qbq];generalize idxL p l=R at*;go_enter Tryz.func99,Tryz.ntmps99;go_wp2_with fail;refine H.out.mono ?_;rintro e w1 ⟨rfl,hb1⟩;have HB1:=zq hb1;clear hb1 H;go_wp2;go_ret
 exact⟨rfl,HB1.out⟩
theorem qef (t:Tp3)(a:TpA)(id:Int)(w:World)(ht:TopR w t a)(hl:t.bals.length<=1048576):
  Calls Tryz.prog 176 #[.agg (tpC t a),.int .i64 id] w fun e w'=>e= .returned (.int .i64 (idxL (fun b:Bl3=>b.id==id) t.bals))/\Below w.heap.size w w':=by
 obtain⟨wa,hwa,hbwa,HWA,HBWA,h0,h1⟩:=bx2Z w 27 (tpC t a) 3 #[.int .i64 id];have c2:wa.cell? ⟨w.heap.size,2,none⟩=some (.slice a.ab t.bals.length a.cb):=(h0).cell 2;have n0:wa.cell? ⟨w.heap.size+1,0,none⟩=some (.int .i64 id):=h1.cell 0;have H:=zq (oix_fb (fun b:Bl3=>b.id==id) t.bals a.ab t.bals.length a.cb (w.heap.size+1) wa (ht.under hbwa).b hl (zq fun x W hW=>otfb_any x id (w.heap.size+1) W ((hW.cell (qag n0)).trans n0)));clear hwa hbwa h0 h1 ht;generalize idxL (fun b:Bl3=>b.id==id) t.bals=R at*;unfold tpC at*;go_enter Tryz.func176,Tryz.ntmps176;go_upto_region 1 with fail;rw[HWA.out];clear HWA;go_wp2_with fail;refine H.out.mono ?_;rintro e w1 ⟨rfl,hb1⟩;have HB1:=tB HBWA hb1;clear hb1 c2 n0 H HBWA;go_wp2;go_ret
 exact⟨rfl,HB1.out⟩
theorem qdg (t:Tp3)(a:TpA)(id:Int)(w:World)(ht:TopR w t a)(hl:t.routes.length<=1048576):
  Calls Tryz.prog 93 #[.agg (tpC t a),.int .i64 id] w fun e w'=>e= .returned (.int .i64 (idxL (fun r:Rt3=>r.id==id) t.routes))/\Below w.heap.size w w':=by
 obtain⟨wa,hwa,hbwa,HWA,HBWA,h0,h1⟩:=bx2Z w 27 (tpC t a) 3 #[.int .i64 id];have c3:wa.cell? ⟨w.heap.size,3,none⟩=some (.slice a.ar t.routes.length a.cr):=(h0).cell 3;have n0:wa.cell? ⟨w.heap.size+1,0,none⟩=some (.int .i64 id):=h1.cell 0;have H:=zq (oix_fr (fun r:Rt3=>r.id==id) t.routes a.ar t.routes.length a.cr (w.heap.size+1) wa (ht.under hbwa).r hl (zq fun x PA pc W hW=>otfr_any x (.slice PA x.path.length pc) id (w.heap.size+1) W ((hW.cell (qag n0)).trans n0)));clear hwa hbwa h0 h1 ht;generalize idxL (fun r:Rt3=>r.id==id) t.routes=R at*;unfold tpC at*;go_enter Tryz.func93,Tryz.ntmps93;go_upto_region 1 with fail;rw[HWA.out];clear HWA;go_wp2_with fail;refine H.out.mono ?_;rintro e w1 ⟨rfl,hb1⟩;have HB1:=tB HBWA hb1;clear hb1 c3 n0 H HBWA;go_wp2;go_ret
 exact⟨rfl,HB1.out⟩
theorem qfv (t:Tp3)(a:TpA)(path:List St3)(A:Option Addr)(n c:Nat)(w:World)(hp:SlO stC 2 w A n c path)(hn:n<=1048576)(hl:t.edges.length<=100):
  Calls Tryz.prog 193 #[.agg (tpC t a),.slice A n c] w fun e w'=>e= .returned (.bool (path.all fun s=>edgeB t s.edge))/\Below w.heap.size w w':=by
 obtain⟨wa,hwa,hbwa,HWA,HBWA,h0⟩:=bx1Z w 27 (tpC t a);have H:=zq (oct_ee (fun s=>!edgeB t s.edge) path A n c w.heap.size wa (hp.under hbwa) hn (zq fun x W hW=>otee_any t a x w.heap.size W (h0.u hW) hl));have he:(path.all fun s=>edgeB t s.edge)=!(path.any fun s=>!edgeB t s.edge):=by rw[List.all_eq_not_any_not]
 rw[he];clear hwa hbwa h0 hp he;generalize (path.any fun s=>!edgeB t s.edge)=R at*;unfold tpC at*;go_enter Tryz.func193,Tryz.ntmps193;go_upto_region 1 with fail;rw[HWA.out];clear HWA;go_wp2_with fail;refine H.out.mono ?_;rintro e w1 ⟨rfl,hb1⟩;have HB1:=tB HBWA hb1;clear hb1 H HBWA;go_wp2;go_ret
 exact⟨rfl,HB1.out⟩
end
section
open Go.RowKit
open Go.Great
theorem qfj:(Tryz.prog.info? 30).map (fun i=>(i.zero,i.size,i.bytes))=some (some (.agg #[.int .i64 0,.bool false]),2,16):=by kernel_rfl
theorem qe5 {α:Type}(p:α->Bool)(l:List α):(idxL p l= -1/\l.find? p=none)\/ ∃(j:Nat) (x:α),l[j]?=some x/\idxL p l=j/\l.find? p=some x:=by
 unfold idxL
 rcases qbK p l 0 with⟨h1,h2⟩|⟨j,x,h1,h2,h3,h4⟩
 ·exact .inl ⟨h1,qdK fun m y _ hy=>h2 m y hy⟩
 ·exact .inr ⟨j,x,h1,by rw[h4];congr 1;omega,qfe h1 h2 h3⟩
theorem oclones_any (A:Option Addr)(n c:Nat)(vs:List Value)(w:World)(hs:Sl w 2 A n c vs)(h1: ∀u∈vs,u.oneCell'=true)(hn:n<=100000):
  Calls Tryz.prog 88 #[.slice A n c] w fun e w'=> ∃A' c',e= .returned (.slice A' n c')/\Hid (w'.ownsRow w.heap.size 30 2 (.slice A' n c') n vs)/\Hid (Below w.heap.size w w'):=by
 have H1:=zq h1;clear h1
 cases hA:A with
 |none=>
  subst hA;obtain⟨rfl,rfl⟩:=hs.2.1 rfl;have e0:vs=[]:=List.eq_nil_of_length_eq_zero (by simpa using hs.1);subst e0;have HO0:Hid (w.ownsRow w.heap.size 30 2 (.slice none 0 0) 0 []):=zq (World.ownsRow_nil w w.heap.size 30 2);have q1:=fun w:World=>Lib.run_eql_slice_nil (P:=Tryz.prog) w 35 30 none 0 0 0 0 Tryz.underlying35;simp only[Option.isNone]at q1;clear hs;go_enter Tryz.func88,Tryz.ntmps88;go_wp2;go_ret
  exact⟨none,0,rfl,HO0,zq (Below.refl _ _)⟩
 |some ad=>
  subst hA;have HSL:=zq (hs.beside (.cells #[] 30));have HO:=zq (World.ownsRow_lit (base:=w.heap.size) (e:=30) (size:=2) w #[] 0 (Nat.le_refl _) (by unfold maxLen;omega) rfl);have HB:Hid (0+n<=maxLen/\(0+n)*16<=140737488355328/\w.heap.size<=(w.alloc (.cells #[] 30)).heap.size):=zq ⟨by unfold maxLen;omega,by omega,by simp⟩;have HBL:Hid (Below w.heap.size w (w.alloc (.cells #[] 30))):=zq (bA);have q1:=fun w:World=>Lib.run_eql_slice_nil (P:=Tryz.prog) w 35 30 (some ad) n c 0 0 Tryz.underlying35;simp only[Option.isNone]at q1;clear hs;go_enter Tryz.func88,Tryz.ntmps88;go_wp2_with (with_reducible refine qaP (o:=⟨some 7,_,_,_,_,_⟩) rfl (.tmp 5) (.tmp 6) 35 rfl w.heap.size 30 (.agg #[.int .i64 0,.bool false]) 2 16 Tryz.underlying35 qfj ?hz (by decide) (some ⟨w.heap.size,0,none⟩) 0 0 [] ?hs HO (some ad) n c vs ?hx HSL H1 HB ?next)
  all_goals try rfl
  intro A4 c4 w4 ho4 hg4;have HO4:Hid (w4.ownsRow w.heap.size 30 2 (.slice A4 n c4) n vs):=zq (by simpa using ho4.out);clear ho4;go_wp2;go_ret
  exact⟨A4,c4,rfl,HO4,zq (qas HBL.out HB.out.2.2 HO.out (Nat.le_refl _) rfl hg4.out)⟩
theorem otp_bal (t:Tp3)(a:TpA)(id:Int)(w:World)(ht:TopR w t a)(hl:qaJ t=true):
  Calls Tryz.prog 117 #[.agg (tpC t a),.int .i64 id] w fun e w'=>e= .returned (.tuple #[.agg (blA (balR t id)),.bool (balF t id).isSome])/\Below w.heap.size w w':=by
 have hn:t.bals.length<=1048576:=by have:=(qav hl).2.2.1;omega
 obtain⟨wa,hwa,hbwa,HWA,HBWA,h0,h1⟩:=bx2Z w 27 (tpC t a) 151 #[.int .i64 0,.int .i64 0,.int .i64 0];have c2:wa.cell? ⟨w.heap.size,2,none⟩=some (.slice a.ab t.bals.length a.cb):=(h0).cell 2;have H:=zq (qef t a id wa (ht.under hbwa) hn);have HT:=zq ht;have HP:=zq h0;have KP:=zH h0;have KZ:=zH h1;have KC:Hid (∀W,Below wa.heap.size wa W->W.cell? ⟨w.heap.size,2,none⟩=some (.slice a.ab t.bals.length a.cb)):=zq fun W hW=>(hW.cell (qag c2)).trans c2;have hfi:=qe5 (fun b:Bl3=>b.id==id) t.bals;generalize hR:idxL (fun b:Bl3=>b.id==id) t.bals=R at*;clear hwa hbwa h0 h1 ht hR
 rcases hfi with⟨rfl,hf⟩|⟨j,x,hx,rfl,hf⟩
 ·have HF:=zq (show balF t id=none from hf)
  clear hf;go_enter Tryz.func117,Tryz.ntmps117;go_upto_region 1 with fail;rw[HWA.out];clear HWA c2;go_wp2_with (with_reducible refine ldZ 7 HP.out ?_);refine H.out.mono ?_;rintro e w1 ⟨rfl,hb1⟩;have HZ1:=zq (KZ.out w1 hb1);have HB1:=tB HBWA hb1;clear hb1 HBWA H HP KP KZ KC;have HR:=zq (qab HZ1.out #[.int .i64 0,.int .i64 0,.int .i64 0]);have HBF:=zq (qac (g:=w.heap.size+1) HB1.out (by omega) #[.int .i64 0,.int .i64 0,.int .i64 0]);go_wp2_with (with_reducible refine stZ #[.int .i64 0,.int .i64 0,.int .i64 0] HZ1.out ?_);refine rtZ HR.out ?_;have e1_:balR t id=⟨0,0,0⟩:=by unfold balR;rw[HF.out];rfl
  have e2_:(balF t id).isSome=false:=by rw[HF.out];rfl
  rw[e1_,e2_];exact⟨rfl,HBF.out⟩
 ·have HF:=zq (show balF t id=some x from hf)
  have hjl:=(List.getElem?_eq_some_iff.1 hx).1;clear hf;go_enter Tryz.func117,Tryz.ntmps117;go_upto_region 1 with fail;rw[HWA.out];clear HWA c2;go_wp2_with (with_reducible refine ldZ 7 HP.out ?_);refine H.out.mono ?_;rintro e w1 ⟨rfl,hb1⟩;have HZ1:=zq (KZ.out w1 hb1);have HB1:=tB HBWA hb1;have c2:=KC.out w1 hb1;obtain⟨bk,off,hab,d0,d1,d2⟩:=(HT.out.under HB1.out).b.bal hx;rw[hab]at c2;have y0:(0:Int)<=j:=by omega
  have y1:(j:Int)<t.bals.length:=by omega
  have y2: ¬(j:Int)<0:=by omega
  clear hb1 HBWA H HP KP KZ KC hx hab;generalize t.bals.length=m at*;have HR:=zq (qab HZ1.out #[.int .i64 x.id,.int .i64 x.edge,.int .i64 x.at_]);have HBF:=zq (qac (g:=w.heap.size+1) HB1.out (by omega) #[.int .i64 x.id,.int .i64 x.edge,.int .i64 x.at_]);go_wp2_with (with_reducible refine stZ #[.int .i64 x.id,.int .i64 x.edge,.int .i64 x.at_] HZ1.out ?_);refine rtZ HR.out ?_;have e1_:balR t id=x:=by unfold balR;rw[HF.out];rfl
  have e2_:(balF t id).isSome=true:=by rw[HF.out];rfl
  rw[e1_,e2_];exact⟨rfl,HBF.out⟩
theorem otlong_any (t:Tp3)(a:TpA)(w:World):
  Calls Tryz.prog 98 #[.agg (tpC t a)] w fun e w'=>e= .returned (.bool (longB t))/\Below w.heap.size w w':=by
 obtain⟨wa,hwa,hbwa,HWA,HBWA,h0⟩:=bx1Z w 27 (tpC t a);have c0:wa.cell? ⟨w.heap.size,0,none⟩=some (.slice a.ae t.edges.length a.ce):=(h0).cell 0;have c1:wa.cell? ⟨w.heap.size,1,none⟩=some (.slice a.aj t.joints.length a.cj):=(h0).cell 1;have c2:wa.cell? ⟨w.heap.size,2,none⟩=some (.slice a.ab t.bals.length a.cb):=(h0).cell 2;have c3:wa.cell? ⟨w.heap.size,3,none⟩=some (.slice a.ar t.routes.length a.cr):=(h0).cell 3;unfold longB;clear hwa hbwa h0;unfold tpC at*;obtain⟨m0,hm0⟩: ∃m,t.edges.length=m:=⟨_,rfl⟩
 obtain⟨m1,hm1⟩: ∃m,t.joints.length=m:=⟨_,rfl⟩
 obtain⟨m2,hm2⟩: ∃m,t.bals.length=m:=⟨_,rfl⟩
 obtain⟨m3,hm3⟩: ∃m,t.routes.length=m:=⟨_,rfl⟩
 rw[hm0,hm1,hm2,hm3]at HWA;rw[hm0]at c0;rw[hm1]at c1;rw[hm2]at c2;rw[hm3]at c3;rw[hm0,hm1,hm2,hm3];clear hm0 hm1 hm2 hm3;by_cases h0:40<m0
 ·rw[decide_eq_true h0,Bool.true_or]
  have g0:(m0:Int)>40:=by omega
  go_enter Tryz.func98,Tryz.ntmps98;go_upto_region 1 with fail;rw[HWA.out];clear HWA;go_wp2;go_ret
  exact⟨rfl,HBWA.out⟩
 ·rw[decide_eq_false h0,Bool.false_or]
  by_cases h1:80<m1
  ·rw[decide_eq_true h1,Bool.true_or]
   have g0: ¬(m0:Int)>40:=by omega
   have g1:(m1:Int)>80:=by omega
   go_enter Tryz.func98,Tryz.ntmps98;go_upto_region 1 with fail;rw[HWA.out];clear HWA;go_wp2;go_ret
   exact⟨rfl,HBWA.out⟩
  ·rw[decide_eq_false h1,Bool.false_or]
   by_cases h2:80<m2
   ·rw[decide_eq_true h2,Bool.true_or]
    have g0: ¬(m0:Int)>40:=by omega
    have g1: ¬(m1:Int)>80:=by omega
    have g2:(m2:Int)>80:=by omega
    go_enter Tryz.func98,Tryz.ntmps98;go_upto_region 1 with fail;rw[HWA.out];clear HWA;go_wp2;go_ret
    exact⟨rfl,HBWA.out⟩
   ·rw[decide_eq_false h2,Bool.false_or]
    by_cases h3:30<m3
    ·rw[decide_eq_true h3]
     have g0: ¬(m0:Int)>40:=by omega
     have g1: ¬(m1:Int)>80:=by omega
     have g2: ¬(m2:Int)>80:=by omega
     have g3:(m3:Int)>30:=by omega
     go_enter Tryz.func98,Tryz.ntmps98;go_upto_region 1 with fail;rw[HWA.out];clear HWA;go_wp2;go_ret
     exact⟨rfl,HBWA.out⟩
    ·rw[decide_eq_false h3]
     have g0: ¬(m0:Int)>40:=by omega
     have g1: ¬(m1:Int)>80:=by omega
     have g2: ¬(m2:Int)>80:=by omega
     have g3: ¬(m3:Int)>30:=by omega
     go_enter Tryz.func98,Tryz.ntmps98;go_upto_region 1 with fail;rw[HWA.out];clear HWA;go_wp2;go_ret
     exact⟨rfl,HBWA.out⟩
end
section
open Go.RowKit
open Go.Great
theorem stc_one13 (l:List St3): ∀u∈l.flatMap stC,u.oneCell'=true:=by
 intro u hu;obtain⟨s,_,h⟩:=List.mem_flatMap.1 hu;unfold stC at h
 rcases List.mem_cons.1 h with rfl|h
 ·rfl
 ·rcases List.mem_cons.1 h with rfl|h
  ·rfl
  ·cases h
def repB (path:List St3)(i:Nat):Bool:=match path[i]? with|none=>false|some s=>(path.take i).any fun x=>x.edge==s.edge
theorem qeh {path:List St3}:(∃i,i<path.length/\repB path i=true)↔qa6 path=true:=by
 unfold qa6;rw[decide_eq_true_eq,List.nodup_iff_pairwise_ne,List.pairwise_iff_getElem]
 constructor
 ·rintro⟨i,hi,h⟩ hn
  unfold repB at h;rw[List.getElem?_eq_getElem hi]at h;simp only[List.any_eq_true,beq_iff_eq]at h;obtain⟨x,hx,e⟩:=h;obtain⟨m,hm,rfl⟩:=List.getElem_of_mem hx;rw[List.length_take]at hm;refine hn m i (by rw[List.length_map];omega) (by rw[List.length_map];exact hi) (by omega) ?_;rw[List.getElem_map,List.getElem_map];rw[List.getElem_take]at e;exact e
 ·intro hn
  refine Classical.byContradiction fun hc=>hn fun a b ha hb hab e=>hc ?_;rw[List.length_map]at ha hb;refine⟨b,hb,?_⟩;unfold repB;rw[List.getElem?_eq_getElem hb];simp only[List.any_eq_true,beq_iff_eq];refine⟨path[a],List.mem_of_getElem? (i:=a) (by rw[List.getElem?_take_of_lt hab];exact List.getElem?_eq_getElem ha),?_⟩
  simpa using e
theorem otrep_any (path:List St3)(A:Option Addr)(n c:Nat)(w:World)(hp:SlO stC 2 w A n c path)(hn:n<=1048576)(hc:n<=c):
  Calls Tryz.prog 177 #[.slice A n c] w fun e w'=>e= .returned (.bool (qa6 path))/\Below w.heap.size w w':=by
 have HS:=zq hp;have HN:Hid (path.length=n):=zq hp.1;clear hp;obtain⟨Q,hQ⟩:=geZ (qa6 path);have HQ:=zq hQ;rw[hQ];clear hQ;go_enter Tryz.func177,Tryz.ntmps177;go_wp2;go_loopg [7] n (fun kk v wl=> ∃i:Nat,i<=n/\n-i<=kk/\v= .int .i64 i/\Hid (∀m,m<i->repB path m=false)/\Hid (Below w.heap.size w wl))
 case atStart=>exact⟨0,by omega,by omega,rfl,zq fun m h=>absurd h (by omega),zq (Below.refl _ _)⟩
 obtain⟨i,hi,hik,rfl,HNO,HBL⟩:=hrel;by_cases hlt:i<n;rotate_left
 ·have y1: ¬(i:Int)<n:=by omega
  have HF:Hid (Q=false):=zq (by
   rw[<-HQ.out]
   cases hq:qa6 path with
   |false=>rfl
   |true=>
    obtain⟨m,hm,h⟩:=qeh.2 hq;rw[HNO.out m (by have:=HN.out;omega)]at h
    cases h)
  go_wp2;go_ret
  exact⟨by rw[HF.out];rfl,HBL.out⟩
 obtain⟨x,hx⟩:=glZ path (i) (by rw[HN.out];omega);obtain⟨bk,off,rfl,d0,d1⟩:=(HS.out.under HBL.out).step hx;have y0:(0:Int)<=i:=by omega
 have y1:(i:Int)<n:=by omega
 have y2:(i:Int)<=c:=by omega
 obtain⟨q,hq⟩:=geZ (repB path i);have hqe:((path.take i).any fun y=>y.edge==x.edge)=q:=by rw[<-hq];unfold repB;rw[hx]
 have HQI:=zq hq;go_upto_region 4 with fail;obtain⟨wb,hwb⟩:=geZ (wr.alloc (.cells #[.int .i64 x.edge,.bool x.rev] 30));rw[hwb];have hbb:Below wr.heap.size wr wb:=by rw[<-hwb];exact bA
 have hH:Has wb wr.heap.size 30 #[.int .i64 x.edge,.bool x.rev]:=by rw[<-hwb];exact Has.made _ _ _
 have HBB:=tB HBL hbb;have hc0:wb.cell? ⟨wr.heap.size,0,none⟩=some (.int .i64 x.edge):=hH.cell 0;have HC:=zq (oct_re (fun y=>y.edge==x.edge) (path.take i) (some ⟨bk,off,none⟩) i c wr.heap.size wb ((HS.out.under HBB.out).take (fun _=>rfl) (by simp) hi) (by omega) (zq fun y W hW=>otre_any y x.edge wr.heap.size W ((hW.cell (qag hc0)).trans hc0)));rw[hqe]at HC;clear hwb hbb hH hc0 d0 d1 hqe hx hq
 cases q with
 |true=>
  have HF:Hid (Q=true):=zq (by rw[<-HQ.out];exact qeh.1 ⟨i,by have:=HN.out;omega,HQI.out⟩);go_wp2_with fail;refine HC.out.mono ?_;rintro e w1 ⟨rfl,hb1⟩;have HB1:=tB HBB hb1;clear hb1 HNO;go_wp2;go_ret
  exact⟨by rw[HF.out];rfl,HB1.out⟩
 |false=>
  go_wp2_with fail;refine HC.out.mono ?_;rintro e w1 ⟨rfl,hb1⟩;have HB1:=tB HBB hb1;have HN2:Hid (∀m,m<i+1->repB path m=false):=zq fun m hm=>by
   by_cases h:m=i
   ·rw[h];exact HQI.out
   ·exact HNO.out m (by omega)
  clear hb1 HNO;go_wp2;go_roundg (gk-1)
  case measure=>omega
  case rel=>exact⟨i+1,by omega,by omega,by go_num,HN2,HB1⟩
theorem othave_any (t:Tp3)(a:TpA)(path:List St3)(A:Option Addr)(n c:Nat)(w:World)(ht:TopR w t a)(hb:t.bals.length<=100)(hp:SlO stC 2 w A n c path)(hn:n<=1048576):
  Calls Tryz.prog 178 #[.agg (tpC t a),.slice A n c] w fun e w'=>e= .returned (.bool (path.all (qcp t)))/\Below w.heap.size w w':=by
 obtain⟨wa,hwa,hbwa,HWA,HBWA,h0⟩:=bx1Z w 27 (tpC t a);have HS:=zq (hp.under hbwa);have HT:=zq (ht.under hbwa);have HN:Hid (path.length=n):=zq hp.1;have HP:=zq h0;have KC:Hid (∀W,Below wa.heap.size wa W->W.cell? ⟨w.heap.size,2,none⟩=some (.slice a.ab t.bals.length a.cb)):=zq fun W hW=>by
  have c2:wa.cell? ⟨w.heap.size,2,none⟩=some (.slice a.ab t.bals.length a.cb):=h0.cell 2;exact(hW.cell (qag c2)).trans c2
 clear hwa hbwa h0 ht hp;obtain⟨Q,hQ⟩:=geZ (path.all (qcp t));have HQ:=zq hQ;rw[hQ];clear hQ;unfold tpC at HWA;unfold tpC;go_enter Tryz.func178,Tryz.ntmps178;go_upto_region 1 with fail;rw[HWA.out];clear HWA;go_wp2;go_loopg [9] n (fun kk v wl=> ∃i:Nat,i<=n/\n-i<=kk/\v= .int .i64 i/\Hid (∀m s,m<i->path[m]?=some s->qcp t s=true)/\Hid (Below wa.heap.size wa wl))
 case atStart=>exact⟨0,by omega,by omega,rfl,zq fun m s h=>absurd h (by omega),zq (Below.refl _ _)⟩
 obtain⟨i,hi,hik,rfl,HNO,HBL⟩:=hrel;by_cases hlt:i<n;rotate_left
 ·have y1: ¬(i:Int)<n:=by omega
  have HF:Hid (Q=true):=zq (by
   rw[<-HQ.out,List.all_eq_true];intro s hs;obtain⟨m,hm,rfl⟩:=List.getElem_of_mem hs;exact HNO.out m _ (by have:=HN.out;omega) (List.getElem?_eq_getElem hm))
  have HBF:=zq (HBWA.out.trans (HBL.out.mono HBWA.out.size));go_wp2;go_ret
  exact⟨by rw[HF.out];rfl,HBF.out⟩
 obtain⟨x,hx⟩:=glZ path (i) (by rw[HN.out];omega);obtain⟨bk,off,rfl,d0,d1⟩:=(HS.out.under HBL.out).step hx;have HX:=zq hx;have y0:(0:Int)<=i:=by omega
 have y1:(i:Int)<n:=by omega
 obtain⟨q,hq⟩:=geZ (qcp t x);have hqe:(t.bals.any fun b=>b.edge==x.edge)=q:=hq;have HQI:=zq hq;go_upto_region 4 with fail;obtain⟨wb,hwb⟩:=geZ (wr.alloc (.cells #[.int .i64 x.edge,.bool x.rev] 30));rw[hwb];have hbb:Below wr.heap.size wr wb:=by rw[<-hwb];exact bA
 have hH:Has wb wr.heap.size 30 #[.int .i64 x.edge,.bool x.rev]:=by rw[<-hwb];exact Has.made _ _ _
 have HBB:=tB HBL hbb;have hc0:wb.cell? ⟨wr.heap.size,0,none⟩=some (.int .i64 x.edge):=hH.cell 0;have c2:=KC.out wb HBB.out;have HC:=zq (oct_hb (fun b=>b.edge==x.edge) t.bals a.ab t.bals.length a.cb wr.heap.size wb (HT.out.under HBB.out).b (by omega) (zq fun y W hW=>othb_any y x.edge wr.heap.size W ((hW.cell (qag hc0)).trans hc0)));rw[hqe]at HC;clear hwb hbb hH hc0 d0 d1 hqe hx hq;generalize t.bals.length=mb at*
 cases q with
 |true=>
  go_wp2_with fail;refine HC.out.mono ?_;rintro e w1 ⟨rfl,hb1⟩;have HB1:=tB HBB hb1;have HN2:Hid (∀m s,m<i+1->path[m]?=some s->qcp t s=true):=zq fun m s hm hs=>by
   by_cases h:m=i
   ·subst h;rw[HX.out]at hs;cases hs;exact HQI.out
   ·exact HNO.out m s (by omega) hs
  clear hb1 HNO c2;go_wp2;go_roundg (gk-1)
  case measure=>omega
  case rel=>exact⟨i+1,by omega,by omega,by go_num,HN2,HB1⟩
 |false=>
  have HF:Hid (Q=false):=zq (by rw[<-HQ.out,List.all_eq_false];exact⟨x,List.mem_of_getElem? HX.out,by rw[HQI.out];decide⟩);go_wp2_with fail;refine HC.out.mono ?_;rintro e w1 ⟨rfl,hb1⟩;have HB1:=zq (HBWA.out.trans ((bu HBB.out hb1).mono HBWA.out.size));clear hb1 HNO c2;go_wp2;go_ret
  exact⟨by rw[HF.out];rfl,HB1.out⟩
end
section
open Go.RowKit
open Go.Great
theorem qfC (w:World)(xs:Array Value)(i:Nat):(part 147 xs i).run Tryz.prog w= .ok (.agg (xs.extract i (i+2))) w:=by
 simp[part,Tryz.isAgg147,Tryz.sizeOf147]
theorem eq_endd13 (d:Nat)(a b:Int×Int)(W:World):(Op.equalIn (d+2) 147 (.agg (endA a)) (.agg (endA b))).run Tryz.prog W= .ok (eqE a b) W:=by
 rw[show d+2=(d+1)+1 from rfl,run_equalIn_struct W (d+1) 147 _ _ (by kernel_rfl) (by kernel_rfl)];simp only[Program.fieldsOf,Tryz.underlying147];unfold eqE endA;by_cases h0:a.1=b.1;rotate_left
 ·refine(qbl W (d+1) (endA a) (endA b) _ _ (.int .i64 a.1) (.int .i64 b.1) (by decide) (qam W 3 (endA a) 0 (.int .i64 a.1) (by kernel_rfl) rfl) (qam W 3 (endA b) 0 (.int .i64 b.1) (by kernel_rfl) rfl) (by rw[run_equalIn_int W d 3 .i64 .i64 _ _ Tryz.underlying3];simp[h0])).trans ?_
  have e:(a.1==b.1)=false:=by simp[h0]
  simp[e]
 refine(qaV W (d+1) (endA a) (endA b) _ _ (.int .i64 a.1) (.int .i64 b.1) (by decide) (qam W 3 (endA a) 0 (.int .i64 a.1) (by kernel_rfl) rfl) (qam W 3 (endA b) 0 (.int .i64 b.1) (by kernel_rfl) rfl) (by rw[run_equalIn_int W d 3 .i64 .i64 _ _ Tryz.underlying3];simp[h0])).trans ?_;by_cases h1:a.2=b.2;rotate_left
 ·refine(qbl W (d+1) (endA a) (endA b) _ _ (.int .i64 a.2) (.int .i64 b.2) (by decide) (qam W 3 (endA a) 1 (.int .i64 a.2) (by kernel_rfl) rfl) (qam W 3 (endA b) 1 (.int .i64 b.2) (by kernel_rfl) rfl) (by rw[run_equalIn_int W d 3 .i64 .i64 _ _ Tryz.underlying3];simp[h1])).trans ?_
  have e:(a.2==b.2)=false:=by simp[h1]
  simp[e]
 refine(qaV W (d+1) (endA a) (endA b) _ _ (.int .i64 a.2) (.int .i64 b.2) (by decide) (qam W 3 (endA a) 1 (.int .i64 a.2) (by kernel_rfl) rfl) (qam W 3 (endA b) 1 (.int .i64 b.2) (by kernel_rfl) rfl) (by rw[run_equalIn_int W d 3 .i64 .i64 _ _ Tryz.underlying3];simp[h1])).trans ?_;refine(qbX W (d+1) _ _).trans ?_;simp[h0,h1]
def eqJ (a b:Jt3):Bool:=eqE a.a b.a &&eqE a.b b.b
theorem eq_jt13 (a b:Jt3)(W:World):(Op.equalIn 10000 149 (.agg (jtA a)) (.agg (jtA b))).run Tryz.prog W= .ok (eqJ a b) W:=by
 rw[show(10000:Nat)=9999+1 from rfl,run_equalIn_struct W 9999 149 _ _ (by kernel_rfl) (by kernel_rfl)];simp only[Program.fieldsOf,Tryz.underlying149];unfold eqJ;have p0: ∀x:Jt3,(part 147 (jtA x) 0).run Tryz.prog W= .ok (.agg (endA x.a)) W:=fun x=>qfC W _ 0;have p1: ∀x:Jt3,(part 147 (jtA x) 2).run Tryz.prog W= .ok (.agg (endA x.b)) W:=fun x=>qfC W _ 2;have q0:=eq_endd13 9997 a.a b.a W;have q1:=eq_endd13 9997 a.b b.b W
 cases h0:eqE a.a b.a with
 |false=>
  rw[h0]at q0;refine(qbl W 9999 (jtA a) (jtA b) _ _ _ _ (by decide) (p0 a) (p0 b) q0).trans ?_
  rfl
 |true=>
  rw[h0]at q0;refine(qaV W 9999 (jtA a) (jtA b) _ _ _ _ (by decide) (p0 a) (p0 b) q0).trans ?_
  cases h1:eqE a.b b.b with
  |false=>
   rw[h1]at q1;refine(qbl W 9999 (jtA a) (jtA b) _ _ _ _ (by decide) (p1 a) (p1 b) q1).trans ?_
   rfl
  |true=>
   rw[h1]at q1;refine(qaV W 9999 (jtA a) (jtA b) _ _ _ _ (by decide) (p1 a) (p1 b) q1).trans ?_;exact qbX W 9999 _ _
theorem join_eqJ (l:List Jt3)(j:Jt3):(l.any (eqJ j)||l.any (eqJ ⟨j.b,j.a⟩))=joinB l j.a j.b:=by
 unfold joinB;rw[Bool.eq_iff_iff];simp only[Bool.or_eq_true,List.any_eq_true,eqJ,joinJ,Bool.and_eq_true]
 constructor
 ·rintro(⟨y,hy,h1,h2⟩|⟨y,hy,h1,h2⟩)
  ·exact⟨y,hy,.inl ⟨by rw[qcl];exact h1,by rw[qcl];exact h2⟩⟩
  ·exact⟨y,hy,.inr ⟨by rw[qcl];exact h1,by rw[qcl];exact h2⟩⟩
 ·rintro⟨y,hy,(⟨h1,h2⟩|⟨h1,h2⟩)⟩
  ·exact .inl ⟨y,hy,by rw[qcl];exact h1,by rw[qcl];exact h2⟩
  ·exact .inr ⟨y,hy,by rw[qcl];exact h1,by rw[qcl];exact h2⟩
theorem oixj_any (l:List Jt3)(v:Jt3)(A:Option Addr)(n c:Nat)(w:World)(hs:SlO jtC 4 w A n c l)(hbig:n<=1048576):
  Calls Tryz.prog 206 #[.slice A n c,.agg (jtA v)] w fun e w'=>e= .returned (.int .i64 (idxL (eqJ v) l))/\Below w.heap.size w w':=by
 obtain⟨wa,hwa,hbwa,HWA,HBWA,h0⟩:=bx1Z w 149 (jtA v);have HN:Hid (l.length=n):=zq hs.1;have HW:=zq (hs.under hbwa);have c0:wa.cell? ⟨w.heap.size,0,none⟩=some (.int .i64 v.a.1):=h0.cell 0;have c1:wa.cell? ⟨w.heap.size,1,none⟩=some (.int .i64 v.a.2):=h0.cell 1;have c2:wa.cell? ⟨w.heap.size,2,none⟩=some (.int .i64 v.b.1):=h0.cell 2;have c3:wa.cell? ⟨w.heap.size,3,none⟩=some (.int .i64 v.b.2):=h0.cell 3;have HQ:=zq (fun x=>eq_jt13 v x);clear hs hwa hbwa h0;have x0:(0:Int)<=n:=by omega
 obtain⟨R,hR⟩:=geZ (idxL (eqJ v) l);have HR:=zq hR;rw[hR];clear hR;unfold jtA at*;go_enter Tryz.func206,Tryz.ntmps206;go_upto_region 1 with fail;rw[HWA.out];clear HWA;go_wp2;go_loopg [8] n (fun kk s8 wl=> ∃j q:Nat,j<=n/\n-j<=kk/\s8= .int .i64 j/\Hid (∀i x,i<j->l[i]?=some x->eqJ v x=false)/\wl=wa.drewN q)
 case atStart=>exact⟨0,0,by omega,by omega,rfl,zq fun i x h=>absurd h (by omega),rfl⟩
 obtain⟨j,q,hj,hjk,rfl,HNO,rfl⟩:=hrel;by_cases hlt:j<n
 ·obtain⟨x,hx⟩:=glZ l (j) (by rw[HN.out];omega)
  obtain⟨bk,off,rfl,d0,d1,d2,d3⟩:=HW.out.joint hx;have HX:=zq hx;have y0:(0:Int)<=j:=by omega
  have y1:(j:Int)<n:=by omega
  have q1:=HQ.out x;clear hx;generalize hb:eqJ v x=b at*;have HBE:=zq hb;clear hb;go_upto_region 4 with fail
  cases b with
  |true=>
   have HF:Hid (R=j):=zq (by rw[<-HR.out];exact qbC HX.out HBE.out HNO.out);go_quiet (fail);go_wp2;go_ret
   exact⟨by rw[HF.out];rfl,by first|exact qaa HBWA.out _|(rw[World.drewN_drewN];exact qaa HBWA.out _)⟩
  |false=>
   have HN2:Hid (∀i y,i<j+1->l[i]?=some y->eqJ v y=false):=zq fun i y hi hy=>by
    by_cases h:i=j
    ·subst h;rw[HX.out]at hy;cases hy;exact HBE.out
    ·exact HNO.out i y (by omega) hy
   go_quiet (fail);go_wp2;go_roundg (gk-1)
   case measure=>omega
   case rel=>exact⟨j+1,_,by omega,by omega,by go_num,HN2,by first|rfl|rw[World.drewN_drewN]⟩
 ·have y1: ¬(j:Int)<n:=by omega
  have HF:Hid (R= -1):=zq (by rw[<-HR.out];exact qbg fun i y hi hy=>HNO.out i y (by have:=HN.out;omega) hy);go_wp2;go_ret
  exact⟨by rw[HF.out];rfl,qaa HBWA.out _⟩
theorem octj_any (l:List Jt3)(v:Jt3)(A:Option Addr)(n c:Nat)(w:World)(hs:SlO jtC 4 w A n c l)(hbig:n<=1048576):
  Calls Tryz.prog 174 #[.slice A n c,.agg (jtA v)] w fun e w'=>e= .returned (.bool (l.any (eqJ v)))/\Below w.heap.size w w':=by
 obtain⟨wa,hwa,hbwa,HWA,HBWA,h0⟩:=bx1Z w 149 (jtA v);have H:=zq (oixj_any l v A n c wa (hs.under hbwa) hbig);have HV:=zq h0;clear hs hwa hbwa h0;rw[<-qbq];generalize idxL (eqJ v) l=R at*;go_enter Tryz.func174,Tryz.ntmps174;go_upto_region 1 with fail;rw[HWA.out];clear HWA;go_wp2_with (with_reducible refine ldZ 6 HV.out ?_);refine H.out.mono ?_;rintro e w1 ⟨rfl,hb1⟩;have HB1:=tB HBWA hb1;clear hb1 H HV HBWA;go_wp2;go_ret
 exact⟨rfl,HB1.out⟩
end
section
open Go.RowKit
open Go.Great
theorem otcj_any (t:Tp3)(a:TpA)(i:Nat)(j:Jt3)(w:World)(ht:TopR w t a)(hl:t.edges.length<=100)(hjl:t.joints.length<=100)(hcj:t.joints.length<=a.cj)(hj:t.joints[i]?=some j):
  Calls Tryz.prog 102 #[.agg (tpC t a),.int .i64 i] w fun e w'=>e= .returned (.int .i64 (qbi t i))/\Below w.heap.size w w':=by
 obtain⟨wa,hwa,hbwa,HWA,HBWA,h0⟩:=bx1Z w 27 (tpC t a);have hil:=(List.getElem?_eq_some_iff.1 hj).1;rw[jointE_at hj];obtain⟨nj,hnj⟩: ∃n,t.joints.length=n:=⟨_,rfl⟩
 obtain⟨AJ,hAJ⟩: ∃A,a.aj=A:=⟨_,rfl⟩
 have hjs:SlO jtC 4 w AJ nj a.cj t.joints:=by rw[<-hAJ,<-hnj];exact ht.j
 obtain⟨bk,off,rfl,-,-,-,-⟩:=hjs.joint hj;have HJS:=zq hjs;have HCX:=zq (fun W (hW:Below w.heap.size w W)=>(show W.cell? ⟨bk,off+i*4,none⟩=some (.int .i64 j.a.1)/\W.cell? ⟨bk,off+i*4+1,none⟩=some (.int .i64 j.a.2)/\W.cell? ⟨bk,off+i*4+2,none⟩=some (.int .i64 j.b.1)/\W.cell? ⟨bk,off+i*4+3,none⟩=some (.int .i64 j.b.2)from by obtain⟨b_,o_,e_,h_⟩:=(hjs.under hW).joint hj;injection e_ with e_;injection e_ with e1_ e2_ _;subst e1_ e2_;exact h_));have c1:wa.cell? ⟨w.heap.size,1,none⟩=some (.slice (some ⟨bk,off,none⟩) nj a.cj):=by rw[<-hnj,<-hAJ];exact h0.cell 1
 have HC1:=zq (fun W (hW:Below wa.heap.size wa W)=>(hW.cell (qag c1)).trans c1);have HBA:=zq (fun W (hW:Below wa.heap.size wa W)=>hbwa.trans (hW.mono hbwa.size));have HH0:=zq h0;have HL:=zq hl;have HJL:Hid (nj<=100):=zq (by rw[<-hnj];exact hjl);have y0:(0:Int)<=i:=by omega
 have y1:(i:Int)<nj:=by omega
 have y2:(i:Int)<=a.cj:=by omega
 have HIL:Hid (i<nj):=zq (by omega);have HCN:=zq (fun W=>qgg t a j W hl);have q1:=qdv j.a j.b;have HJE:=join_eqJ (t.joints.take i) j;obtain⟨k1,hk1⟩: ∃b,(t.joints.take i).any (eqJ j)=b:=⟨_,rfl⟩
 obtain⟨k2,hk2⟩: ∃b,(t.joints.take i).any (eqJ ⟨j.b,j.a⟩)=b:=⟨_,rfl⟩
 rw[hk1,hk2]at HJE;have HOC1:=zq (fun W (hW:Below w.heap.size w W)=>(octj_any (t.joints.take i) j (some ⟨bk,off,none⟩) i a.cj W ((hjs.under hW).take (fun _=>rfl) (by simp) (by omega)) (by omega)));have HOC2:=zq (fun W (hW:Below w.heap.size w W)=>(octj_any (t.joints.take i) ⟨j.b,j.a⟩ (some ⟨bk,off,none⟩) i a.cj W ((hjs.under hW).take (fun _=>rfl) (by simp) (by omega)) (by omega)));rw[hk1]at HOC1;rw[hk2]at HOC2;have hce:(endB t j.a &&endB t j.b)=connB t j:=rfl;rw[hce,<-HJE];obtain⟨cn,hcn⟩: ∃b,connB t j=b:=⟨_,rfl⟩
 obtain⟨eq,heq⟩: ∃b,eqE j.a j.b=b:=⟨_,rfl⟩
 rw[hcn,heq];rw[hcn]at HCN;rw[heq]at q1;clear hwa hbwa h0 ht hl hjl hcj hj hjs hil hnj hAJ hk1 hk2 hce hcn heq HJE c1;obtain⟨⟨j1,j2⟩,⟨j3,j4⟩⟩:=j;unfold jtA at HCN HOC1 HOC2;unfold endA at q1;dsimp only at*;go_enter Tryz.func102,Tryz.ntmps102;go_upto_region 1 with fail;rw[HWA.out];clear HWA;refine wp_region_held_drew (S:=(fun W_=>Has W_ (w.heap.size) 27 (tpC t a)/\Below wa.heap.size wa W_)) (by kernel_rfl) ?_ (fun hHeld=>?_)
 ·exact⟨HH0.out.draw,qah (Below.refl _ _)⟩
 refine tkZ 0 8 (h:=?_);simp only[lyZ];refine tqZ 1 9 (fun w_ hSw=>HC1.out w_ hSw.2) (h:=?_);simp only[lyZ];refine tkZ 2 10 (h:=?_);simp only[lyZ];refine tkZ 3 11 (h:=?_);simp only[lyZ];refine tqZ 4 12 (fun w_ hSw=>HCX.out w_ (HBA.out w_ hSw.2)) (h:=?_);simp only[lyZ];refine tkZ 5 13 (h:=?_);simp only[lyZ];refine tqZ 6 14 (fun w_ hSw=>HC1.out w_ hSw.2) (h:=?_);simp only[lyZ];refine tkZ 7 15 (h:=?_);simp only[lyZ];refine tkZ 8 16 (h:=?_);simp only[lyZ];refine rdZ [9] ?_;refine acZ (some 5) (fun K hK=>?_) ?_
 ·go_simp
  obtain⟨s0,s1⟩:=hHeld;obtain⟨gx,hgx⟩:=geZ (wa.heap.size);have hgl:w.heap.size<gx:=by rw[<-hgx];exact s0.lt
  have hgl2:wa.heap.size<=gx:=by rw[<-hgx];exact s1.size
  rw[hgx];refine hK.out _ _ ?_ (fun hHeld=>?_)
  ·exact⟨s0.beside _,qao s1 _⟩
  refine qaw (T:=(fun W_=>Has W_ (w.heap.size) 27 (tpC t a)/\Below wa.heap.size wa W_/\(∃o_:Array Value,Has W_ (gx) 149 o_/\o_.size=4))) (fun _ ⟨s0,s1,s2⟩=>⟨s0,s1⟩) ?_;have hHeld2:(fun W_=>Has W_ (w.heap.size) 27 (tpC t a)/\Below wa.heap.size wa W_/\(∃o_:Array Value,Has W_ (gx) 149 o_/\o_.size=4)) _:=⟨s0.beside (.cells #[.int .i64 0,.int .i64 0,.int .i64 0,.int .i64 0] 149),qao s1 (.cells #[.int .i64 0,.int .i64 0,.int .i64 0,.int .i64 0] 149),⟨#[.int .i64 0,.int .i64 0,.int .i64 0,.int .i64 0],(by rw[<-hgx];exact Has.made _ _ _),by kernel_rfl⟩⟩
  clear hHeld;have hHeld:=hHeld2;clear hHeld2 hK K hgx s0 s1
  try simp only[lyZ]
  refine rdZ [10] ?_;refine acZ none (fun K hK=>?_) ?_
  ·rw[if_pos (by rfl)]
   obtain⟨s0,s1,s2⟩:=hHeld;obtain⟨o_,h_,e_⟩:=s2;refine wp_store_row 149 _ _ rfl (gx) #[.int .i64 j1,.int .i64 j2,.int .i64 j3,.int .i64 j4] (by rfl) (by rfl) 149 o_ h_.raw11 (by kernel_rfl) e_ (by kernel_rfl) ?_;refine hK.out _ _ ?_ (fun hHeld=>?_)
   ·exact⟨qae s0 (by omega) _,qac s1 (by omega) _,⟨_,qab h_ #[.int .i64 j1,.int .i64 j2,.int .i64 j3,.int .i64 j4],by kernel_rfl⟩⟩
   refine qaw (T:=(fun W_=>Has W_ (w.heap.size) 27 (tpC t a)/\Below wa.heap.size wa W_/\Has W_ (gx) 149 #[.int .i64 j1,.int .i64 j2,.int .i64 j3,.int .i64 j4])) (fun _ ⟨s0,s1,s2⟩=>⟨s0,s1,⟨_,s2,by kernel_rfl⟩⟩) ?_;have hHeld2:(fun W_=>Has W_ (w.heap.size) 27 (tpC t a)/\Below wa.heap.size wa W_/\Has W_ (gx) 149 #[.int .i64 j1,.int .i64 j2,.int .i64 j3,.int .i64 j4]) _:=⟨qae s0 (by omega) _,qac s1 (by omega) _,qab h_ #[.int .i64 j1,.int .i64 j2,.int .i64 j3,.int .i64 j4]⟩
   clear hHeld;have hHeld:=hHeld2;clear hHeld2 hK K h_ e_ s0 s1
   try simp only[Act.put]
   refine tkZ 11 6 (h:=?_);simp only[lyZ];refine dnZ ?_;obtain⟨w2,hw2⟩:=geZ (((wa.alloc (.cells #[.int .i64 0,.int .i64 0,.int .i64 0,.int .i64 0] 149)).drew).setRow gx #[.int .i64 j1,.int .i64 j2,.int .i64 j3,.int .i64 j4]);have hS2:Has w2 (w.heap.size) 27 (tpC t a)/\Below wa.heap.size wa w2/\Has w2 (gx) 149 #[.int .i64 j1,.int .i64 j2,.int .i64 j3,.int .i64 j4]:=by rw[<-hw2];exact hHeld
   rw[hw2];clear hw2;have HS2:=zq hS2;clear hHeld hS2;have e0:w2.cell? ⟨gx,0,none⟩=some (.int .i64 j1):=HS2.out.2.2.cell 0;have e1:w2.cell? ⟨gx,1,none⟩=some (.int .i64 j2):=HS2.out.2.2.cell 1;have e2:w2.cell? ⟨gx,2,none⟩=some (.int .i64 j3):=HS2.out.2.2.cell 2;have e3:w2.cell? ⟨gx,3,none⟩=some (.int .i64 j4):=HS2.out.2.2.cell 3;clear y0 y1 y2;go_upto_region 3 with fail;obtain⟨w3,hw3⟩:=geZ (w2.alloc (.cells #[.int .i64 j3,.int .i64 j4,.int .i64 j1,.int .i64 j2] 149));rw[hw3];have hb3:Below w2.heap.size w2 w3:=by rw[<-hw3];exact bA
   have hY3:Has w3 w2.heap.size 149 #[.int .i64 j3,.int .i64 j4,.int .i64 j1,.int .i64 j2]:=by rw[<-hw3];exact Has.made _ _ _
   have HY3:=zq hY3;have HX3:=zq (HS2.out.2.2.under hb3 HS2.out.2.2.lt);have H03:=zq (HS2.out.1.under hb3 HS2.out.1.lt);have HB3:=zq (HS2.out.2.1.trans (hb3.mono HS2.out.2.1.size));obtain⟨gy,hgy⟩: ∃g,w2.heap.size=g:=⟨_,rfl⟩
   rw[hgy]at HY3;simp only[hgy];clear hw3 hb3 hY3 hgy e0 e1 e2 e3 HS2;go_wp2_with (first|(with_reducible refine ldZ 23 H03.out ?_)|(with_reducible refine ldZ 24 HX3.out ?_));refine(HCN.out _).mono ?_;rintro e w4 ⟨rfl,hb4⟩;have HX4:=uH HX3 hb4;have HY4:=uH HY3 hb4;have HB4:=tB HB3 hb4;have e0:w4.cell? ⟨gx,0,none⟩=some (.int .i64 j1):=HX4.out.cell 0;have e1:w4.cell? ⟨gx,1,none⟩=some (.int .i64 j2):=HX4.out.cell 1;have e2:w4.cell? ⟨gx,2,none⟩=some (.int .i64 j3):=HX4.out.cell 2;have e3:w4.cell? ⟨gx,3,none⟩=some (.int .i64 j4):=HX4.out.cell 3;clear hb4 HX3 HY3 HB3 H03 HCN
   cases cn with
   |false=>
    go_wp2;go_ret
    exact⟨rfl,HBA.out _ HB4.out⟩
   |true=>
    cases eq with
    |true=>
     go_wp2;go_ret
     exact⟨rfl,HBA.out _ HB4.out⟩
    |false=>
     have HOA:=zq (HOC1.out w4 (HBA.out _ HB4.out));go_upto_region 5 with fail;clear e0 e1 e2 e3 q1;go_wp2_with (with_reducible refine ldZ 36 HX4.out ?_);refine HOA.out.mono ?_;rintro e w5 ⟨rfl,hb5⟩;have HB5:=tB HB4 hb5;have HY5:=uH HY4 hb5;clear hb5 HOA HX4
     cases k1 with
     |true=>
      go_wp2;go_ret
      exact⟨rfl,HBA.out _ HB5.out⟩
     |false=>
      have HOB:=zq (HOC2.out w5 (HBA.out _ HB5.out));go_wp2_with ((with_reducible refine qbx 40 ?_);refine qaB (o:=⟨some 40,_,_,_,_,_⟩) 149 _ rfl (by kernel_rfl) (gy) rfl 149 #[.int .i64 j3,.int .i64 j4,.int .i64 j1,.int .i64 j2] (0,0) _ (HY5.out).raw11 Tryz.underlying149 rfl (by kernel_rfl) ?_);refine HOB.out.mono ?_;rintro e w6 ⟨rfl,hb6⟩;have HB6:=tB HB5 hb6;clear hb6 HOB HY5
      cases k2 with
      |true=>
       go_wp2;go_ret
       exact⟨rfl,HBA.out _ HB6.out⟩
      |false=>
       go_wp2;go_ret
       exact⟨rfl,HBA.out _ HB6.out⟩
  exact AllReadyH.nil
 exact AllReadyH.nil
end
end Go.Proofs.YtahadmeilajdgaaGreatDoor
