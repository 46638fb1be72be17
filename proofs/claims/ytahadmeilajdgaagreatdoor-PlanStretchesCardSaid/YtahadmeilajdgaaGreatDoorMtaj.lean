/-
  Our own text, joined.
-/
import Derived.Test.YtahadmeilajdgaaGreatDoorMtai
import Derived.Test.YtahadmeilajdgaaGreatDoorMtag
import Derived.BigQuiet
import Derived.IntWalk
import Derived.LoopIn
import Derived.RangeFuncNested
import Derived.RangeFuncBound
import Derived.RangeFuncCalls
import Derived.RangeFuncLeaves
import Derived.RangeFuncBox
import Derived.Shelf.Abstract
import Derived.Shelf.AbstractIn
import Derived.Shelf.RegionOpen
import Derived.ControlIn
import Derived.Test.YtahadmeilajdgaaGreatDoorMtaa
import Derived.Test.YtahadmeilajdgaaGreatDoorMtaf
import Derived.Test.YtahadmeilajdgaaGreatDoorMtae
namespace Go.Proofs.YtahadmeilajdgaaGreatDoor
set_option maxRecDepth 100000
set_option maxHeartbeats 40000000
section
open Go.RowKit Go.Shelf
open Go.Great
attribute [local go_sem] Oper.semAt_some
theorem qfP {P:Program}{ops:Array Oper}{o:Oper}{a:Act}{w:World}{K:Act->World->Prop}{Q:Exit->Act->World->Prop}{E:Prop}(hgd:o.guard=none)(s x:Operand)(t:TypeId)
  (ho:o.op= .call {callee:= .builtin .append,args:=#[s,x],argTypes:=#[t,t]})
  (base:Nat) (e:TypeId) (z:Value) (size bytes:Nat) (ht:P.underlying t=some (.slice e)) (hinfo:(P.info? e).map (fun i=>(i.zero,i.size,i.bytes))=some (some z,size,bytes))
  (hzs:z.cells.size=size) (hsz:0<size)
  (A:Option Addr) (n c:Nat) (xs:List Value) (hs:a.eval s= .slice A n c) (hown:Hid (w.ownsRow base e size (.slice A n c) n xs))
  (B:Option Addr) (m cc:Nat) (news:List Value) (hx:a.eval x= .slice B m cc) (hl:Hid (Sl w size B m cc news)) (h1:Hid (∀u∈news,u.oneCell'=true))
  (hb:Hid (n+m<=maxLen/\(n+m)*bytes<=140737488355328/\base<=w.heap.size))
  (h: ∀A' c' w',Hid (w'.ownsRow base e size (.slice A' (n+m) c') (n+m) (xs++news))->Hid (w.grownBy w' (Value.ownBlock (.slice A n c)))->
   K (a.put o.dst (.slice A' (n+m) c')) w'):if Region.wanted o (yielded ops a.tmps)=true then Oper.wp P o a w K Q else E:=by
 cases B with
 |none=>
  obtain⟨rfl,rfl⟩:=hl.out.2.1 rfl;have e0:news=[]:=List.eq_nil_of_length_eq_zero (by simpa using hl.out.1);subst e0;have hw:Region.wanted o (yielded ops a.tmps)=true:=by simp[Region.wanted,hgd]
  rw[if_pos hw];obtain⟨i,hi,_⟩:=info_parts hinfo;have hr:=run_append_owned_none (P:=P) (w:=w) base t o.type e i size ht hi (.slice A n c) n xs hown.out;unfold Oper.wp execOp;simp only[ho,resolve,invoke,builtin,Sem.run_bind,Sem.run_pure,Result.andThen_ok,List.map_toArray,List.map_cons,List.map_nil,hs,hx,hr];exact h A c w (show Hid _ by simpa using hown) (qa3 _ _)
 |some ad=>
  exact step_push hgd s x t ho base e z size bytes ht hinfo hzs hsz A n c xs hs hown ad m cc news hx hl.out.1 (hl.out.2.2 ad rfl) h1 hb h
theorem cell_old15 {W:World}{a:Addr}{v:Value}(h:W.cell? a=some v)(o:Obj):(W.alloc o).cell? a=some v:=
 ((World.grownBy_alloc W o none).cell h (by simp))
def KeepT (t:TypeId)(V V':World):Prop:= ∀g cs,Has V g t cs->Has V' g t cs
theorem KeepT.trans {t:TypeId}{A B C:World}(h:KeepT t A B)(k:KeepT t B C):KeepT t A C:=fun g cs x=>k g cs (h g cs x)
theorem KeepT.putObj {t:TypeId}(W:World)(l:Nat)(o o':Obj)(h:W.heap[l]?=some o)(hc:o.isCells=false):KeepT t W (W.putObj l o'):=fun g cs x=>by
 unfold Has at x⊢;by_cases e:g=l
 ·subst e
  rw[h]at x
  cases x
  cases hc
 ·rw[World.putObj_heap_other e]
  exact x
theorem KeepT.alloc {t:TypeId}(W:World)(o:Obj):KeepT t W (W.alloc o):=fun _ _ x=>x.beside o
theorem OwR.keepT {α:Type}{f:α->List Value}{k:Nat}{e:TypeId}{base:Nat}{w w':World}{A:Option Addr}{n c:Nat}{l:List α}(h:OwR f k e base w A n c l)(hk:KeepT e w w'):OwR f k e base w' A n c l:=by
 refine⟨⟨h.1.1,?_⟩,h.2⟩
 rcases h.1.2 with h1|⟨g,cap,cur,h1,h2,h3,h4⟩
 ·exact .inl h1
 ·exact .inr ⟨g,cap,cur,h1,h2,hk g cur h3,h4⟩
theorem ossort_row (l:List Bd4)(A:Option Addr)(base n c:Nat)(w:World)(ho:OwR bdC 4 209 base w A n c l)(hn:n<=1048576):
  Calls Tryz.prog 157 #[.slice A n c,.func (.func 158) #[] #[]] w fun e w'=>e= .returned (.tuple #[])/\ ∃l':List Bd4,l'.Perm l/\l'.Pairwise (fun x y=>befB y x=false)/\OwR bdC 4 209 base w' A n c l'/\w.grownBy w' (Value.slice A n c).ownBlock:=by
 by_cases h0:n=0
 ·subst h0
  refine(ossort_none A c _ w).mono ?_;rintro e w' ⟨rfl,rfl⟩;obtain rfl:l=[]:=List.eq_nil_of_length_eq_zero ho.2;exact⟨rfl,[],List.Perm.refl _,.nil,ho,qa3 _ _⟩
 ·obtain⟨g,rfl,_,_⟩:=ho.some (by omega)
  exact ossort_any l g base n c w ho hn
def encP (p:Pc5):Array Value:=#[.agg #[.int .i64 p.s.edge,.int .i64 p.s.lo,.int .i64 p.s.hi,.bool p.inA,.bool p.inB]]
theorem ospcs_any (A B:Option Addr)(n c m d:Nat)(w:World):
  Calls Tryz.prog 79 #[.slice A n c,.slice B m d] w fun e w'=>e= .returned (.func (.func 155) #[] #[.pointer (some ⟨w.heap.size,0,none⟩),.pointer (some ⟨w.heap.size+1,0,none⟩)])/\w'=(w.alloc (.cells #[.slice A n c] 52)).alloc (.cells #[.slice B m d] 52):=by
 go_enter Tryz.func79,Tryz.ntmps79;go_wp2;go_ret
 exact⟨by first|rfl|simp,rfl⟩
theorem sweep_cons {L:List Bd4}{i:Nat}{x:Bd4}(h:L[i]?=some x)(pa oa ob:Int):qb8 pa oa ob (L.drop i)=stepC pa oa ob x++qb8 x.at_ (oa+x.a) (ob+x.b) (L.drop (i+1)):=by
 obtain⟨h1,e⟩:=List.getElem?_eq_some_iff.1 h;rw[List.drop_eq_getElem_cons h1,e,qb8]
theorem qfz (mm:Nat)(hm1:1<=mm)(a b:List Sn3)(A B:Option Addr)(n c m d Ba Bb:Nat)(w wq:World)(ha:SlO snC 3 w A n c a)(hb:SlO snC 3 w B m d b)(hn:n<=4096)(hm:m<=4096)(hwq:Below w.heap.size w wq)(hBa:Has wq Ba 52 #[.slice A n c])(hBb:Has wq Bb 52 #[.slice B m d]):
  SeqStopsK Fence.wide mm Tryz.prog 155 #[.pointer (some ⟨Ba,0,none⟩),.pointer (some ⟨Bb,0,none⟩)] encP (fun V V'=>Below w.heap.size V V'/\KeepT 209 V V') (fun ss=> ∃L:List Bd4,L.Perm (qa2 a b)/\L.Pairwise (fun x y=>befB y x=false)/\ss=qbJ L) (fun _=>True) 20000 wq:=fun l J Jx W hW hJ hJx hY h0=>by
 have HBA:=zq (hBa.u hW);have HBB:=zq (hBb.u hW);have HA:=zq (fun V (hV:Below w.heap.size w V)=>ha.under hV);have HB:=zq (fun V (hV:Below w.heap.size w V)=>hb.under hV);have HLA:=zq ha.1;have HLB:=zq hb.1;have HWW:=zq (bu hwq hW);have HY:=zq hY;have HJ:=zq hJ;have H0:=zq h0;have HN:=zq (show n<=4096/\m<=4096 from⟨hn,hm⟩);refine callsIn_wide.2 ?_;clear ha hb hn hm hwq hBa hBb hW hJ hJx hY h0;show Calls _ _ #[.func (.yield l) #[] #[],.pointer (some ⟨Ba,0,none⟩),.pointer (some ⟨Bb,0,none⟩)] W _
 go_enter Tryz.func155,Tryz.ntmps155;go_upto_region 0 with fail;refine wp_region_held_drew (S:=(fun W_=>(Has W_ Ba 52 #[.slice A n c])/\(Has W_ Bb 52 #[.slice B m d])/\(Below w.heap.size w W_))) (by kernel_rfl) ?_ (fun hHeld=>?_)
 ·exact⟨HBA.out.draw,HBB.out.draw,qaf HWW.out⟩
 refine tqZ 0 10 (fun w_ ⟨s0,s1,s2⟩=>(show w_.cell? ⟨Ba,0,none⟩=some (.slice A n c:Value)from s0.cell 0)) (h:=?_);simp only[lyZ];refine tqZ 2 12 (fun w_ ⟨s0,s1,s2⟩=>(show w_.cell? ⟨Bb,0,none⟩=some (.slice B m d:Value)from s1.cell 0)) (h:=?_);simp only[lyZ];refine aoZ 1 (some 11) (fun K hK=>?_);go_simp;obtain⟨s0,s1,s2⟩:=hHeld;refine(osbnd_any a A n c 1 0 _ (HA.out _ s2) HN.out.1 (by decide) (by decide)).mono ?_;rintro e_ v1 ⟨X1,k1,x1,rfl,ho1,hb1⟩;have HO1:Hid (OwR bdC 4 209 W.heap.size v1 X1 k1 x1 (bdsL 1 0 a)):=zq ho1;have HB1:Hid (Below W.heap.size W v1):=zq ((qaf (Below.refl _ _)).trans hb1);go_wp2_with fail;refine hK.out _ _ ?_ (fun hHeld=>?_)
 ·exact⟨s0.u hb1,s1.u hb1,bu s2 hb1⟩
 clear hK K s0 s1 s2
 try simp only[lyZ]
 refine aoZ 3 (some 13) (fun K hK=>?_);go_simp;obtain⟨s0,s1,s2⟩:=hHeld;refine(osbnd_any b B m d 0 1 _ (HB.out _ s2) HN.out.2 (by decide) (by decide)).mono ?_;rintro e_ v2 ⟨X2,k2,x2,rfl,ho2,hb2⟩;have HO1:=zq (HO1.out.under hb2);have HO2:=zq ho2.sl;have HB2:Hid (Below W.heap.size W v2):=tB HB1 hb2;have HKK:Hid (k1+k2<=16384):=zq (by have h1_:=HO1.out.2;have h2_:=ho2.2;have h3_:=bds_len 1 0 a;have h4_:=bds_len 0 1 b;have h5_:=HN.out;have h6_:=HLA.out;have h7_:=HLB.out;omega);go_wp2_with fail;refine hK.out _ _ ?_ (fun hHeld=>?_)
 ·exact⟨s0.u hb2,s1.u hb2,bu s2 hb2⟩
 clear hK K s0 s1 s2
 try simp only[lyZ]
 refine aoZ 4 (some 14) (fun K hK=>?_);obtain⟨s0,s1,s2⟩:=hHeld;obtain⟨hO,hSL,h1,hBD⟩:=pourR 32 HO1.out HO2.out one_bd15 HB2.out.size (by have h_:=HKK.out;omega) (by omega);refine qfP (o:=⟨some 14,_,_,_,_,_⟩) (by rfl) (.tmp 11) (.tmp 13) 205 (by rfl) W.heap.size 209 (.agg #[.int .i64 0,.int .i64 0,.int .i64 0,.int .i64 0]) 4 32 Tryz.underlying205 info_bd15 (by rfl) (by decide) X1 k1 x1 _ (by rfl) hO X2 k2 x2 _ (by rfl) hSL h1 hBD ?_;intro X x v3 ho3 hg3;have HO3:Hid (OwR bdC 4 209 W.heap.size v3 X (k1+k2) x (qa2 a b)):=zq (OwR.poured HO1.out.2 HO2.out.1 ho3.out);have HB3:Hid (Below W.heap.size W v3):=zq (qai HB2.out HB2.out.size hO.out (Nat.le_refl _) rfl hg3.out);refine hK.out _ _ ?_ (fun hHeld=>?_)
 ·exact⟨s0.grow hg3.out (fun e=>qbm hO.out s0 (by decide) e.symm),s1.grow hg3.out (fun e=>qbm hO.out s1 (by decide) e.symm),qai s2 s2.size hO.out HWW.out.size rfl hg3.out⟩
 clear hK K s0 s1 s2
 try simp only[lyZ]
 refine tkZ 5 4 (h:=?_);simp only[lyZ];clear ho1 ho2 hb1 hb2 ho3 hg3 hO hSL h1 hBD HO1 HO2 HB1 HB2 HBA HBB HA HB;refine dnZ ?_;clear hHeld;obtain⟨K,hK⟩:=geZ (k1+k2);rw[hK]at HO3 HKK;simp only[hK];clear hK;go_wp2_with fail;refine(ossort_row _ X _ K x v3 HO3.out (by have h_:=HKK.out;omega)).mono ?_;rintro e_ v4 ⟨rfl,L,hp,hso,ho4,hg4⟩;have HP:=zq hp;have HSO:=zq hso;have HO4:=zq ho4;have HB4:=zq (below_owr HB3.out HB3.out.size HO3.out (Nat.le_refl _) hg4);have HJ4:Hid (J [] v4):=zq (HJ.out [] W v4 none H0.out (qaK HB4.out (Nat.le_refl _) none) (fun r e=>by cases e));have HNUM:Hid (∀x∈L,(-1<=x.a/\x.a<=1)/\(-1<=x.b/\x.b<=1)):=zq fun x hx=>(all_mem (hp.mem_iff.1 hx)).2.2.2;have HLL:=zq ho4.2;clear hp hso ho4 hg4 HO3 HB3 H0;go_wp2;go_loopg [5,6,19] K (fun kk v5 v6 v19 wl=> ∃(i:Nat) (ss:List Pc5) (pa oa ob:Int),i<=K/\K-i<=kk/\v19= .int .i64 i/\v5= .int .i64 oa/\v6= .int .i64 ob/\Hid (ss++qb8 pa oa ob (L.drop i)=qbJ L)/\Hid (0<i-> ∃y,L[i-1]?=some y/\y.at_=pa)/\Hid (-(i:Int)<=oa/\oa<=i/\ -(i:Int)<=ob/\ob<=i)/\Hid (ss.length<=i)/\Hid (J ss wl)/\Hid (OwR bdC 4 209 W.heap.size wl X K x L))
 case atStart=>exact⟨0,[],0,0,0,by omega,by omega,rfl,rfl,rfl,zq rfl,zq fun h=>absurd h (by omega),zq (by omega),zq (Nat.le_refl _),HJ4,HO4⟩
 obtain⟨i,ss,pa,oa,ob,hi,hik,rfl,rfl,rfl,HSS,HPA,HNB,HSL,HJS,HO⟩:=hrel;obtain⟨k1,hk1⟩: ∃k1,k1=gk:=⟨_,rfl⟩
 subst hk1;obtain⟨wv,hwv⟩: ∃wv,wv=wr:=⟨_,rfl⟩
 subst hwv;clear HJ4 HB4 HO4;by_cases hlt:i<K;rotate_left
 ·obtain rfl:i=K:=by omega
  have x1: ¬(i:Int)<i:=by omega
  have HE:Hid (ss=qbJ L):=zq (by have h_:=HSS.out;rw[List.drop_of_length_le (by rw[HLL.out];exact Nat.le_refl _)]at h_;rw[<-h_];simp[qb8]);clear hik hlt;go_wp2;go_end0
  exact⟨⟨_,rfl⟩,.inl ⟨ss,⟨L,HP.out,HSO.out,HE.out⟩,HJS.out⟩⟩
 obtain⟨y,hy⟩:=glZ L (i) (by rw[HLL.out];exact hlt);obtain⟨g,rfl,hgb,hgl⟩:=HO.out.some (by omega);have d0_:=HO.out.sl.at_cell (fun _=>rfl) (by decide) hy (i:=0) rfl;have d1_:=HO.out.sl.at_cell (fun _=>rfl) (by decide) hy (i:=1) rfl;have d2_:=HO.out.sl.at_cell (fun _=>rfl) (by decide) hy (i:=2) rfl;have d3_:=HO.out.sl.at_cell (fun _=>rfl) (by decide) hy (i:=3) rfl;have e0:0+i*4+0=i*4:=by omega
 have e1:0+i*4+1=i*4+1:=by omega
 have e2:0+i*4+2=i*4+2:=by omega
 have e3:0+i*4+3=i*4+3:=by omega
 rw[e0]at d0_;rw[e1]at d1_;rw[e2]at d2_;rw[e3]at d3_;have HSW:=zq (sweep_cons hy pa oa ob);have HYN:=zq (HNUM.out y (List.mem_of_getElem? hy));have HYI:=zq hy;obtain⟨xe,xa,xA,xB⟩:=y;dsimp only at*;have x1:(i:Int)<K:=by omega
 have x2:(0:Int)<=i:=by omega
 have HII:=zq (show i<K/\i<=K/\K-i<=k1 from⟨hlt,hi,hik⟩);obtain⟨oa2,hoa2⟩: ∃z,oa+xA=z:=⟨_,rfl⟩
 obtain⟨ob2,hob2⟩: ∃z,ob+xB=z:=⟨_,rfl⟩
 obtain⟨S,hS⟩: ∃z,oa+ob=z:=⟨_,rfl⟩
 have hwA:wrap64 (oa+xA)=oa2:=by rw[IntWalk.wrap64_in _ (by have h1_:=HNB.out;have h2_:=HYN.out;have h3_:=HKK.out;omega)];exact hoa2
 have hwB:wrap64 (ob+xB)=ob2:=by rw[IntWalk.wrap64_in _ (by have h1_:=HNB.out;have h2_:=HYN.out;have h3_:=HKK.out;omega)];exact hob2
 have hwS:IntKind.i64.wrap (oa+ob)=S:=by rw[IntKind.wrap_i64];have h1_:=HNB.out;have h3_:=HKK.out;omega
 have HNEW:Hid (-((i+1:Nat):Int)<=oa2/\oa2<=((i+1:Nat):Int)/\ -((i+1:Nat):Int)<=ob2/\ob2<=((i+1:Nat):Int)):=zq (by have h1_:=HNB.out;have h2_:=HYN.out;omega);have HOB:=zq (show oa+xA=oa2/\ob+xB=ob2/\oa+ob=S from⟨hoa2,hob2,hS⟩);rw[hoa2,hob2]at HSW;clear hy e0 e1 e2 e3 hlt hi hik hoa2 hob2 hS hgb;go_upto_region 6 with fail;obtain⟨wb,hwb⟩:=geZ (wv.alloc (.cells #[.int .i64 xe,.int .i64 xa,.int .i64 xA,.int .i64 xB] 209));rw[hwb];have HJB:Hid (J ss wb):=zq (HJ.out ss wv wb none HJS.out (by rw[<-hwb];exact qgr (qa3 _ _) _) (fun r e=>by cases e));have HOW:Hid (OwR bdC 4 209 W.heap.size wb (some ⟨g,0,none⟩) K x L):=zq (HO.out.under (by rw[<-hwb];exact bA));have HH:Hid (Has wb wv.heap.size 209 #[.int .i64 xe,.int .i64 xa,.int .i64 xA,.int .i64 xB]):=zq (by rw[<-hwb];exact Has.made _ _ _);obtain⟨gb,hgb⟩:=geZ (wv.heap.size);rw[hgb]at HH;simp only[hgb];clear hwb hgb d0_ d1_ d2_ d3_ HJS HO x1 hgl;by_cases y1:0<S;rotate_left
 ·have y2:decide (0<S)=false:=decide_eq_false y1
  have y3:decide (S>0)=false:=decide_eq_false y1;have HST:Hid (stepC pa oa ob ⟨xe,xa,xA,xB⟩=[]):=zq (if_neg (fun h_=>y1 (by have h2_:=HOB.out;omega)));go_quiet (fail);obtain⟨wc,hwc⟩:=geZ (wb.drewN nq);rw[hwc];have HHc:Hid (Has wc gb 209 #[.int .i64 xe,.int .i64 xa,.int .i64 xA,.int .i64 xB]):=zq (by rw[<-hwc];exact HH.out);have HJc:Hid (J ss wc):=zq (HJ.out ss wb wc none HJB.out (by rw[<-hwc];exact qbV (qa3 _ _) _) (fun r e=>by cases e));have HOc:Hid (OwR bdC 4 209 W.heap.size wc (some ⟨g,0,none⟩) K x L):=zq (by rw[<-hwc];exact HOW.out);clear hwc y1 y2 y3;have g2:wc.cell? ⟨gb,2,none⟩=some (.int .i64 xA):=(HHc.out).cell 2;have g3:wc.cell? ⟨gb,3,none⟩=some (.int .i64 xB):=(HHc.out).cell 3;have HQ:Hid (ss++qb8 xa oa2 ob2 (L.drop (i+1))=qbJ L):=zq (by have h_:=HSS.out;rw[HSW.out,HST.out,List.nil_append]at h_;exact h_);have HJN:Hid (J (ss) (wc)):=zq (HJc.out);have HON:Hid (OwR bdC 4 209 W.heap.size (wc) (some ⟨g,0,none⟩) K x L):=zq (HOc.out);clear HJB HOW HH;go_wp2;go_roundg (k1-1)
  case measure=>have h_:=HII.out;omega
  case rel=>
   exact⟨i+1,ss,xa,oa2,ob2,by have h_:=HII.out;omega,by have h_:=HII.out;omega,by rw[IntWalk.wrap64_in _ (by have h_:=HII.out;have h2_:=HKK.out;omega)];go_num,by first|rfl|rw[hwA],by first|rfl|rw[hwB],HQ,zq fun _=>⟨_,HYI.out,rfl⟩,HNEW,zq (by have h_:=HSL.out;omega),HJN,HON⟩
 have HI0:Hid (0<i):=zq (by have h1_:=HNB.out;have h2_:=HOB.out;omega);obtain⟨z,hz,hza⟩:=HPA.out HI0.out;have d1_:=HOW.out.sl.at_cell (fun _=>rfl) (by decide) hz (i:=1) rfl;have e1:0+(i-1)*4+1=(i-1)*4+1:=by omega
 rw[e1]at d1_;rw[hza]at d1_;have hw1:IntKind.i64.wrap ((i:Int)-1)=(i:Int)-1:=by rw[IntKind.wrap_i64];have h_:=HKK.out;have h2_:=HII.out;have h3_:=HI0.out;omega
 have hw2:((i:Int)-1).toNat=i-1:=by omega
 have y4:(0:Int)<=(i:Int)-1:=by have h3_:=HI0.out;omega
 have y5:(i:Int)-1<K:=by have h2_:=HII.out;omega
 have y6:(1:Int)<=(i:Int):=by have h3_:=HI0.out;omega
 have y2:decide (0<S)=true:=decide_eq_true y1;have y3:decide (S>0)=true:=decide_eq_true y1;have HCB:=zq (HH.out.cell 1);have g1:wb.cell? ⟨gb,1,none⟩=some (.int .i64 xa):=HH.out.cell 1;clear hz hza e1 HPA HCB;by_cases y7:pa<xa;rotate_left
 ·have HST:Hid (stepC pa oa ob ⟨xe,xa,xA,xB⟩=[]):=zq (if_neg (fun h_=>y7 h_.2))
  go_quiet (fail);obtain⟨wc,hwc⟩:=geZ (wb.drewN nq);rw[hwc];have HHc:Hid (Has wc gb 209 #[.int .i64 xe,.int .i64 xa,.int .i64 xA,.int .i64 xB]):=zq (by rw[<-hwc];exact HH.out);have HJc:Hid (J ss wc):=zq (HJ.out ss wb wc none HJB.out (by rw[<-hwc];exact qbV (qa3 _ _) _) (fun r e=>by cases e));have HOc:Hid (OwR bdC 4 209 W.heap.size wc (some ⟨g,0,none⟩) K x L):=zq (by rw[<-hwc];exact HOW.out);clear hwc y1 y2 y3;clear d1_ g1 y4 y5 y6 y7 hw1 hw2;have g2:wc.cell? ⟨gb,2,none⟩=some (.int .i64 xA):=(HHc.out).cell 2;have g3:wc.cell? ⟨gb,3,none⟩=some (.int .i64 xB):=(HHc.out).cell 3;have HQ:Hid (ss++qb8 xa oa2 ob2 (L.drop (i+1))=qbJ L):=zq (by have h_:=HSS.out;rw[HSW.out,HST.out,List.nil_append]at h_;exact h_);have HJN:Hid (J (ss) (wc)):=zq (HJc.out);have HON:Hid (OwR bdC 4 209 W.heap.size (wc) (some ⟨g,0,none⟩) K x L):=zq (HOc.out);clear HJB HOW HH;go_wp2;go_roundg (k1-1)
  case measure=>have h_:=HII.out;omega
  case rel=>
   exact⟨i+1,ss,xa,oa2,ob2,by have h_:=HII.out;omega,by have h_:=HII.out;omega,by rw[IntWalk.wrap64_in _ (by have h_:=HII.out;have h2_:=HKK.out;omega)];go_num,by first|rfl|rw[hwA],by first|rfl|rw[hwB],HQ,zq fun _=>⟨_,HYI.out,rfl⟩,HNEW,zq (by have h_:=HSL.out;omega),HJN,HON⟩
 have HST:Hid (stepC pa oa ob ⟨xe,xa,xA,xB⟩=[⟨⟨xe,pa,xa⟩,decide (0<oa),decide (0<ob)⟩]):=zq (if_pos ⟨by have h_:=HOB.out;omega,y7⟩);go_quiet (fail);obtain⟨wc,hwc⟩:=geZ (wb.drewN nq);rw[hwc];have HHc:Hid (Has wc gb 209 #[.int .i64 xe,.int .i64 xa,.int .i64 xA,.int .i64 xB]):=zq (by rw[<-hwc];exact HH.out);have HJc:Hid (J ss wc):=zq (HJ.out ss wb wc none HJB.out (by rw[<-hwc];exact qbV (qa3 _ _) _) (fun r e=>by cases e));have HOc:Hid (OwR bdC 4 209 W.heap.size wc (some ⟨g,0,none⟩) K x L):=zq (by rw[<-hwc];exact HOW.out);have d1c:wc.cell? ⟨g,(i-1)*4+1,none⟩=some (.int .i64 pa):=by rw[<-hwc];exact d1_
 have g0c:wc.cell? ⟨gb,0,none⟩=some (.int .i64 xe):=HHc.out.cell 0;have g1c:wc.cell? ⟨gb,1,none⟩=some (.int .i64 xa):=HHc.out.cell 1;clear hwc y1 y2 y3;clear d1_ g1 y7 HJB HOW HH;have a0:(wc.alloc (.cells #[.int .i64 0,.int .i64 0,.int .i64 0] 119)).cell? ⟨gb,0,none⟩=some (.int .i64 xe):=(HHc.out.beside _).cell 0;have a1:(wc.alloc (.cells #[.int .i64 0,.int .i64 0,.int .i64 0] 119)).cell? ⟨gb,1,none⟩=some (.int .i64 xa):=(HHc.out.beside _).cell 1;have a2:(wc.alloc (.cells #[.int .i64 0,.int .i64 0,.int .i64 0] 119)).cell? ⟨g,(i-1)*4+1,none⟩=some (.int .i64 pa):=(cell_old15 d1c _)
 go_upto_region 7 with fail;go_region
 obtain⟨wd,hwd⟩:=geZ ((wc.alloc (.cells #[.int .i64 xe,.int .i64 pa,.int .i64 xa] 119)).drew);rw[hwd];have HGW:Hid (wc.grownBy wd none):=zq (by rw[<-hwd];exact qfv (qgr (qa3 _ _) _));have hks:Has wd wc.heap.size 119 #[.int .i64 xe,.int .i64 pa,.int .i64 xa]:=by rw[<-hwd];exact(Has.made _ _ _).draw
 obtain⟨gs,hgs⟩:=geZ (wc.heap.size);rw[hgs]at hks;simp only[hgs];have k0:wd.cell? ⟨gs,0,none⟩=some (.int .i64 xe):=hks.cell 0;have k1:wd.cell? ⟨gs,1,none⟩=some (.int .i64 pa):=hks.cell 1;have k2:wd.cell? ⟨gs,2,none⟩=some (.int .i64 xa):=hks.cell 2;have HHd:Hid (Has wd gb 209 #[.int .i64 xe,.int .i64 xa,.int .i64 xA,.int .i64 xB]):=zq (HHc.out.grow HGW.out (by simp));have HJd:Hid (J ss wd):=zq (HJ.out ss wc wd none HJc.out HGW.out (fun r e=>by cases e));have HOd:Hid (OwR bdC 4 209 W.heap.size wd (some ⟨g,0,none⟩) K x L):=zq (HOc.out.kept HGW.out (.inr (by simp[Value.ownBlock])));clear hks hwd hgs a0 a1 a2 d1c g0c g1c y4 y5 y6 hw1 hw2 HHc HJc HOc HGW;go_upto_region 8 with fail;refine(wpIn_wide (n:=mm)).1 ?_;obtain⟨fn,tmps,assign,body,hy,hR⟩:=HY.out ss ⟨⟨xe,pa,xa⟩,decide (0<oa),decide (0<ob)⟩ wd HJd.out (by have h_:=HSL.out;have h2_:=HII.out;have h3_:=HKK.out;omega);unfold encP at hy;dsimp only at hy
 gi_wp2
 refine hR.mono ?_;rintro e W3 (⟨rfl,hJ4,hk4⟩|⟨rfl,hJx4⟩)
 ·skip
  have HJ4:=zq hJ4;have HH4:=zq (hk4.2 _ _ HHd.out);have HO4:=zq (HOd.out.keepT hk4.2);clear hJ4 hk4 hy hR k0 k1 k2 HJd HHd HOd;have g2:W3.cell? ⟨gb,2,none⟩=some (.int .i64 xA):=(HH4.out).cell 2;have g3:W3.cell? ⟨gb,3,none⟩=some (.int .i64 xB):=(HH4.out).cell 3;have HQ:Hid ((ss++[⟨⟨xe,pa,xa⟩,decide (0<oa),decide (0<ob)⟩])++qb8 xa oa2 ob2 (L.drop (i+1))=qbJ L):=zq (by have h_:=HSS.out;rw[HSW.out,HST.out,<-List.append_assoc]at h_;exact h_);have HJN:Hid (J ((ss++[⟨⟨xe,pa,xa⟩,decide (0<oa),decide (0<ob)⟩])) (W3)):=zq (HJ4.out);have HON:Hid (OwR bdC 4 209 W.heap.size (W3) (some ⟨g,0,none⟩) K x L):=zq (HO4.out);clear HJ4 HH4 HO4
  gi_wp2
  go_wp2;go_roundg (k1-1)
  case measure=>have h_:=HII.out;omega
  case rel=>
   exact⟨i+1,(ss++[⟨⟨xe,pa,xa⟩,decide (0<oa),decide (0<ob)⟩]),xa,oa2,ob2,by have h_:=HII.out;omega,by have h_:=HII.out;omega,by rw[IntWalk.wrap64_in _ (by have h_:=HII.out;have h2_:=HKK.out;omega)];go_num,by first|rfl|rw[hwA],by first|rfl|rw[hwB],HQ,zq fun _=>⟨_,HYI.out,rfl⟩,HNEW,zq (by have h_:=HSL.out;simp;omega),HJN,HON⟩
 ·gi_wp2
  go_wp2;refine bodyPost_ret (results_none rfl _ _ _) rfl ?_;exact⟨⟨_,rfl⟩,.inr ⟨_,trivial,hJx4⟩⟩
end
section
open Go.RowKit Go.Shelf
attribute [local go_sem] Oper.semAt_some
def pcA (p:Pc5):Array Value:=#[.int .i64 p.s.edge,.int .i64 p.s.lo,.int .i64 p.s.hi,.bool p.inA,.bool p.inB]
theorem owr_cells {α:Type}{f:α->List Value}{k:Nat}{e:TypeId}{base:Nat}{W:World}{A:Option Addr}{n c:Nat}{l:List α}(h:OwR f k e base W A n c l){j:Nat}{o:Obj}(ej:(Value.slice A n c).ownBlock=some j)(hj:W.heap[j]?=some o):o.isCells=true:=by
 rcases h.1.2 with⟨h1,_⟩|⟨g,cap,cur,h1,_,h3,_⟩
 ·rw[h1]at ej
  cases ej
 ·rw[h1]at ej
  obtain rfl:g=j:=by simpa[Value.ownBlock]using ej
  rw[h3]at hj
  cases hj
  rfl
theorem qed {W W':World}{row:Option Nat}{B C:Nat}{t:TypeId}{v:Value}(h:Boxed W B t v)(hg:W.grownBy W' row)(hr: ∀r,row=some r->C<=r/\ ∃o:Obj,W.heap[r]?=some o/\o.isCells=false):Boxed W' B t v:=h.kept hg fun e=>by
 obtain⟨_,o,ho,hc⟩:=hr B e.symm;rw[show W.heap[B]?=_ from h]at ho
 cases ho
 cases hc
theorem owr_from {α:Type}{f:α->List Value}{k:Nat}{e:TypeId}{base:Nat}{W W':World}{row:Option Nat}{C:Nat}{A:Option Addr}{n c:Nat}{l:List α}(h:OwR f k e base W A n c l)(hg:W.grownBy W' row)(hr: ∀r,row=some r->C<=r/\ ∃o:Obj,W.heap[r]?=some o/\o.isCells=false):OwR f k e base W' A n c l:=by
 refine h.kept hg ?_
 cases A with
 |none=>exact .inl rfl
 |some ad=>
  obtain⟨g,cur,rfl,_,hh,_⟩:=h.has;refine .inr fun e2=>?_;obtain⟨_,o,ho,hc⟩:=hr g e2.symm;rw[show W.heap[g]?=_ from hh]at ho
  cases ho
  cases hc
theorem oscollect_any (F:Nat)(kf:Bool->Bool->Bool)(Kp:Kp3)(hk: ∀x y W,Calls Tryz.prog F #[.bool x,.bool y] W fun e W'=>e= .returned (.bool (kf x y))/\W=W')(eg: ∀args w,(callFunc F args).run Tryz.prog w= .ok (.enter F args) w)(hK: ∀x y,(x||y)=true->kf x y=wantB Kp x y)
  (a b:List Sn3) (A B:Option Addr) (n c m d:Nat) (w:World) (ha:SlO snC 3 w A n c a) (hb:SlO snC 3 w B m d b) (hn:n<=4096) (hm:m<=4096):
  Calls Tryz.prog 163 #[.slice A n c,.slice B m d,.func (.func F) #[] #[]] w fun e w'=> ∃X x,e= .returned (.slice X (formL a b Kp).length x)/\SlO snC 3 w' X (formL a b Kp).length x (formL a b Kp)/\(formL a b Kp).length<=x/\Below w.heap.size w w':=by
 refine(callsIn_wide (n:=4)).1 ?_;refine callsIn_of_wp_marks Tryz.func163 rfl trivial ?_ rfl;simp only[Tryz.ntmps163,List.size_toArray,List.length_cons,List.length_nil,Nat.reduceAdd,Nat.reduceSub,Array.replicate_succ,Array.replicate_zero,List.push_toArray,List.append_toArray,List.nil_append,List.cons_append];have HA:=zq ha;have HB:=zq hb;have HN:=zq (show n<=4096/\m<=4096 from⟨hn,hm⟩);have HKK:=zq hK;have HK:=zq hk;clear ha hb hn hm hK hk
 gi_wp2
 obtain⟨w2,hw2⟩:=geZ ((w.alloc (.cells #[.func (.func F) #[] #[]] 215)).alloc (.cells #[.slice none 0 0] 52));rw[hw2];have hk2:Has w2 w.heap.size 215 #[.func (.func F) #[] #[]]:=by rw[<-hw2];exact(Has.made _ _ _).beside _
 have hx2:Has w2 (w.heap.size+1) 52 #[.slice none 0 0]:=by rw[<-hw2];exact qbz (by simp)
 have hb2:Below w.heap.size w w2:=by rw[<-hw2];exact(bA).alloc (by simp) _
 have hs2:w2.heap.size=w.heap.size+2:=by rw[<-hw2];simp
 clear hw2;refine⟨trivial,(callsIn_wide.2 (ospcs_any A B n c m d w2)).mono ?_⟩;rintro e w4 ⟨rfl,hw4⟩;have hBa:Has w4 w2.heap.size 52 #[.slice A n c]:=by rw[hw4];exact(Has.made _ _ _).beside _
 have hBb:Has w4 (w2.heap.size+1) 52 #[.slice B m d]:=by rw[hw4];exact qbz (by simp)
 have hk4:Has w4 w.heap.size 215 #[.func (.func F) #[] #[]]:=by rw[hw4];exact(hk2.beside _).beside _
 have hx4:Has w4 (w.heap.size+1) 52 #[.slice none 0 0]:=by rw[hw4];exact(hx2.beside _).beside _
 have hb4:Below w.heap.size w w4:=by rw[hw4];exact(hb2.alloc hb2.size _).alloc (by have:=hb2.size;simp;omega) _
 have hs4:w4.heap.size=w.heap.size+4:=by rw[hw4];simp;omega
 clear hw4 hk2 hx2 hb2;have HSEQ:=zq (qfz 3 (by omega) a b A B n c m d w2.heap.size (w2.heap.size+1) w w4 HA.out HB.out HN.out.1 HN.out.2 hb4 hBa hBb);have HK4:=zq hk4;have HX4:=zq hx4;have HB4:=zq hb4;have HS4:=zq hs4;clear hBa hBb hs2 hs4 hb4 hk4 hx4 HA HB
 gi_wp2
 refine qeV (w0:=w4) rfl (by omega) (gf:=155) (lb:=#[.pointer (some ⟨w2.heap.size,0,none⟩),.pointer (some ⟨w2.heap.size+1,0,none⟩)]) rfl trivial (enters_of Tryz.func155 (by kernel_rfl) rfl) HSEQ.out
  (fun h k=>⟨h.1.trans k.1,h.2.trans k.2⟩)
  (fun W l o o' h hl hc hk=>⟨belowK_b (w:=w4) (by have:=HS4.out;omega) W l o o' h hl hc hk,KeepT.putObj W l o o' hl hc⟩)
  (fun W o h=>⟨(Below.refl _ W).alloc (by have:=HS4.out;omega) o,KeepT.alloc W o⟩)
  (Below.refl _ _) (fun _=>rfl)
  (fun(pre:List Pc5) W=> ∃X x,Boxed W (w.heap.size+1) 52 (.slice X (foldJ kf [] pre).length x)/\OwR snC 3 119 w.heap.size W X (foldJ kf [] pre).length x (foldJ kf [] pre)/\Below w.heap.size w W/\Boxed W w.heap.size 215 (.func (.func F) #[] #[]))
  (fun s W W' row hs hg hr=>by
   obtain⟨X,x,h1,h2,h3,h4⟩:=hs;exact⟨X,x,qed h1 hg hr,owr_from h2 hg hr,h3.grown hg h3.size (fun k e=>Nat.le_trans (by have:=HS4.out;omega) (hr k e).1),qed h4 hg hr⟩)
  ⟨none,0,HX4.out,OwR.nil _ _ _ _ _,HB4.out,HK4.out⟩
  (fun x=> .cells (pcA x) 124)
  (fun x v=> {tmps:=#[.slice A n c,.slice B m d,.func (.func F) #[] #[],undef,undef,.pointer (some ⟨w.heap.size,0,none⟩),.slice none 0 0,.pointer (some ⟨w.heap.size+1,0,none⟩),.pointer (some ⟨v,0,none⟩),.slice A n c,.slice B m d,.func (.func 155) #[] #[.pointer (some ⟨w2.heap.size,0,none⟩),.pointer (some ⟨w2.heap.size+1,0,none⟩)],.agg (pcA x),undef,undef,undef,undef,undef,undef,undef,undef,undef,undef,undef],defers:=[]}) ?assign ?body ?done
 case assign=>
  intro l x W K hK;unfold encP;unfold pcA at*
  gi_wp2
  exact hK
 case body=>
  rintro l pre p v W ⟨X,x,hbl,ho,hB,hbk⟩ hv hvw hlen;have hst:Has W v 124 (pcA p):=hv;unfold pcA at*;have HB5:=zq hB;have HBL:=zq hbl;have HO:=zq ho;have HBK:=zq hbk;have HLEN:=zq (show(foldJ kf [] pre).length<=20000 from Nat.le_trans (foldJ_len kf [] pre) (by simp;omega));have HFJ:=zq (foldJ_snoc kf [] pre p);have q0:W.cell? ⟨v,0,none⟩=some (.int .i64 p.s.edge):=hst.cell 0;have q1:W.cell? ⟨v,1,none⟩=some (.int .i64 p.s.lo):=hst.cell 1;have q2:W.cell? ⟨v,2,none⟩=some (.int .i64 p.s.hi):=hst.cell 2;have q3:W.cell? ⟨v,3,none⟩=some (.bool p.inA):=hst.cell 3;have q4:W.cell? ⟨v,4,none⟩=some (.bool p.inB):=hst.cell 4;have c5:=hbk.cell;have c7:=hbl.cell;generalize foldJ kf [] pre=l0 at*;clear hst hv ho hB hlen hbl hbk
  gi_wp2
  refine⟨trivial,(CallsIn.inRound l (callsIn_wide.2 (HK.out p.inA p.inB W))).mono ?_⟩;rintro e W1 ⟨rfl,rfl⟩;clear q3 q4 c5;obtain⟨q,hq⟩:=geZ (kf p.inA p.inB);rw[hq]at HFJ⊢;clear hq
  cases q with
  |false=>
   rw[if_neg (by decide)]at HFJ;clear q0 q1 q2 c7
   gi_wp2
   refine⟨KeepsOthers.refl _,⟨Below.refl _ _,fun _ _ x=>x⟩,?_⟩;dsimp only;rw[HFJ.out];exact⟨X,x,HBL.out,HO.out,HB5.out,HBK.out⟩
  |true=>
   rw[if_pos rfl]at HFJ
   gi_wp2
   refine⟨trivial,(CallsIn.inRound l (callsIn_wide.2 (osjoin_any l0 p.s w.heap.size X l0.length x W HO.out HB5.out.size (by have:=HLEN.out;omega)))).mono ?_⟩;rintro e W2 ⟨X',k',x',rfl,ho',hg'⟩;obtain rfl:(joinL l0 p.s).length=k':=ho'.2;have hbl2:Boxed W2 (w.heap.size+1) 52 (.slice X l0.length x):=HBL.out.kept hg' (HBL.out.not_row (by decide) HO.out.1);have c8:=hbl2.cell;have f8:=hbl2.frozen;have HBL2:=zq hbl2;have HO2:=zq ho';have HG2:=zq hg';clear hbl2 ho' hg' q0 q1 q2 c7
   gi_wp2
   have hlow: ∀k,(Value.slice X l0.length x).ownBlock=some k->w.heap.size<=k:=fun k e=>(HO.out.1.lt k e).1;refine⟨(KeepsOthers.of_grownBy HG2.out fun j o ej hj=>owr_cells HO.out ej hj).trans (KeepsOthers.setCell _ _ _),⟨((Below.refl _ _).grown HG2.out HB5.out.size hlow).setCell (p:=⟨w.heap.size+1,0,none⟩) (by simp) _,fun g cs hh=>(hh.grow HG2.out (fun e=>HO.out.apart hh (by decide) e.symm)).apart (p:=⟨w.heap.size+1,0,none⟩) (Has.other hh (show Has W (w.heap.size+1) 52 #[.slice X l0.length x]from HBL.out) (by decide)) _⟩,?_⟩;dsimp only;rw[HFJ.out];refine⟨X',x',HBL2.out.set _,HO2.out.kept (grownBy_setCell' W2 (w.heap.size+1) _) (.inr (HBL2.out.not_row (by decide) HO2.out.1).symm),(HB5.out.grown HG2.out HB5.out.size hlow).setCell (p:=⟨w.heap.size+1,0,none⟩) (by simp) _,?_⟩;exact(HBK.out.kept HG2.out (HBK.out.not_row (by decide) HO.out.1)).kept (grownBy_setCell' W2 (w.heap.size+1) _) (by simp)
 case done=>
  rintro D ys W hD ⟨L,hp,hso,rfl⟩ ⟨X,x,hbl,ho,hB,hbk⟩ hK;have e1:=collect_form hp hso kf Kp HKK.out;rw[e1]at hbl ho;have c2:=hbl.cell;have HB5:=zq hB;have HO:=zq ho;clear hbl ho hB hbk hp hso e1
  gi_wp2
  refine⟨by simp,.inl ⟨_,_,rfl,run_takeDeferred hK,?_⟩⟩;have ho2:=owr_from (C:=0) HO.out (grownBy_putObj' W D (.deferred none)) (fun r e=>⟨Nat.zero_le _,_,by cases e;exact hK,rfl⟩);exact⟨_,results_tmp rfl _ _ _,X,x,rfl,ho2.sl,HO.out.cap,HB5.out.trans (belowK_b (w:=w) (Nat.le_refl _) W D _ _ (by have:=HS4.out;omega) hK rfl rfl)⟩
def sumW (l:List Pc5):Int:=l.foldl (fun n p=>wrap64 (n+wrap64 (p.s.hi-p.s.lo))) 0
theorem sumW_snoc (l:List Pc5)(p:Pc5):sumW (l++[p])=wrap64 (sumW l+wrap64 (p.s.hi-p.s.lo)):=by
 unfold sumW;rw[List.foldl_append]
 rfl
theorem sumW_from {l:List Pc5}(h: ∀p∈l,okN p.s)(n:Int)(h0:0<=n)(h1:n+l.length*1000000<=1000000000000):l.foldl (fun n p=>wrap64 (n+wrap64 (p.s.hi-p.s.lo))) n=n+sumN (l.map (·.s)):=by
 induction l generalizing n with
 |nil=>simp[sumN]
 |cons p r ih=>
  obtain⟨k1,k2,k3,k4⟩:=h p (List.mem_cons_self ..);rw[List.length_cons]at h1;rw[List.foldl_cons,List.map_cons,IntWalk.wrap64_in (p.s.hi-p.s.lo) (by omega),IntWalk.wrap64_in (n+(p.s.hi-p.s.lo)) (by omega),ih (fun q hq=>h q (List.mem_cons_of_mem _ hq)) _ (by omega) (by omega)];show _=n+(p.s.hi-p.s.lo+_)
  omega
theorem sumW_total {a:List Sn3}{L:List Bd4}(hp:L.Perm (qa2 a []))(hs:L.Pairwise fun x y=>befB y x=false)(hn:a.length<=4096):sumW (qbJ L)=qcu a:=by
 have h1:=(qd2 hp hs).1.ok;have h2:(qbJ L).length<=8192:=by
  have h3:=sweep_len 0 0 0 L;have h4:=hp.length_eq;have h5:=bds_len 1 0 a;unfold qa2 at h4;rw[List.length_append,show(bdsL 0 1 []).length=0 from rfl]at h4;unfold qbJ;omega
 unfold sumW;rw[sumW_from (fun p hp=>(h1 p hp).1) 0 (Int.le_refl _) (by omega),pieces_total hp hs];omega
theorem osn_total (l:List Sn3)(A:Option Addr)(n c:Nat)(w:World)(hs:SlO snC 3 w A n c l)(_:n<=c)(hn:n<=4096):
  Calls Tryz.prog 23 #[.slice A n c] w fun r w'=>r= .returned (.int .i64 (qcu l))/\Below w.heap.size w w':=by
 refine(callsIn_wide (n:=4)).1 ?_;refine callsIn_of_wp_marks Tryz.func23 rfl trivial ?_ rfl;simp only[Tryz.ntmps23,List.size_toArray,List.length_cons,List.length_nil,Nat.reduceAdd,Nat.reduceSub,Array.replicate_succ,Array.replicate_zero,List.push_toArray,List.append_toArray,List.nil_append,List.cons_append];have HA:=zq hs;have HN:=zq hn;have HLN:=zq hs.1;clear hs hn
 gi_wp2
 obtain⟨w2,hw2⟩:=geZ (w.alloc (.cells #[.int .i64 0] 3));rw[hw2];have hx2:Has w2 w.heap.size 3 #[.int .i64 0]:=by rw[<-hw2];exact Has.made _ _ _
 have hb2:Below w.heap.size w w2:=by rw[<-hw2];exact bA
 have hs2:w2.heap.size=w.heap.size+1:=by rw[<-hw2];simp
 clear hw2;refine⟨trivial,(callsIn_wide.2 (ospcs_any A none n c 0 0 w2)).mono ?_⟩;rintro e w4 ⟨rfl,hw4⟩;have hBa:Has w4 w2.heap.size 52 #[.slice A n c]:=by rw[hw4];exact(Has.made _ _ _).beside _
 have hBb:Has w4 (w2.heap.size+1) 52 #[.slice none 0 0]:=by rw[hw4];exact qbz (by simp)
 have hx4:Has w4 w.heap.size 3 #[.int .i64 0]:=by rw[hw4];exact(hx2.beside _).beside _
 have hb4:Below w.heap.size w w4:=by rw[hw4];exact(hb2.alloc hb2.size _).alloc (by have:=hb2.size;simp;omega) _
 have hs4:w4.heap.size=w.heap.size+3:=by rw[hw4];simp;omega
 clear hw4 hx2 hb2;have HSEQ:=zq (qfz 3 (by omega) l [] A none n c 0 0 w2.heap.size (w2.heap.size+1) w w4 HA.out (SlO.nil _ _ _) HN.out (by omega) hb4 hBa hBb);have HX4:=zq hx4;have HB4:=zq hb4;have HS4:=zq hs4;clear hBa hBb hs2 hs4 hb4 hx4 HA
 gi_wp2
 refine qeV (w0:=w4) rfl (by omega) (gf:=155) (lb:=#[.pointer (some ⟨w2.heap.size,0,none⟩),.pointer (some ⟨w2.heap.size+1,0,none⟩)]) rfl trivial (enters_of Tryz.func155 (by kernel_rfl) rfl) HSEQ.out
  (fun h k=>⟨h.1.trans k.1,h.2.trans k.2⟩)
  (fun W l o o' h hl hc hk=>⟨belowK_b (w:=w4) (by have:=HS4.out;omega) W l o o' h hl hc hk,KeepT.putObj W l o o' hl hc⟩)
  (fun W o h=>⟨(Below.refl _ W).alloc (by have:=HS4.out;omega) o,KeepT.alloc W o⟩)
  (Below.refl _ _) (fun _=>rfl)
  (fun(pre:List Pc5) W=>Boxed W w.heap.size 3 (.int .i64 (sumW pre))/\Below w.heap.size w W)
  (fun s W W' row hs hg hr=>⟨qed hs.1 hg hr,hs.2.grown hg hs.2.size (fun k e=>Nat.le_trans (by have:=HS4.out;omega) (hr k e).1)⟩)
  ⟨HX4.out,HB4.out⟩
  (fun x=> .cells (pcA x) 124)
  (fun x v=> {tmps:=#[.slice A n c,undef,.int .i64 0,.pointer (some ⟨w.heap.size,0,none⟩),.pointer (some ⟨v,0,none⟩),.slice A n c,.func (.func 155) #[] #[.pointer (some ⟨w2.heap.size,0,none⟩),.pointer (some ⟨w2.heap.size+1,0,none⟩)],.agg (pcA x),undef,undef,undef,undef,undef,undef,undef,undef,undef,undef],defers:=[]}) ?assign ?body ?done
 case assign=>
  intro l x W K hK;unfold encP;unfold pcA at*
  gi_wp2
  exact hK
 case body=>
  rintro l pre p v W ⟨hbl,hB⟩ hv hvw hlen;have hst:Has W v 124 (pcA p):=hv;unfold pcA at*;have HB5:=zq hB;have HBL:=zq hbl;have HFJ:=zq (sumW_snoc pre p);have q1:W.cell? ⟨v,1,none⟩=some (.int .i64 p.s.lo):=hst.cell 1;have q2:W.cell? ⟨v,2,none⟩=some (.int .i64 p.s.hi):=hst.cell 2;have c7:=hbl.cell;have f7:=hbl.frozen;generalize sumW pre=N at*;clear hst hv hB hlen hbl
  gi_wp2
  refine⟨KeepsOthers.setCell _ _ _,⟨(Below.refl _ _).setCell (p:=⟨w.heap.size,0,none⟩) (by simp) _,fun g cs hh=>hh.apart (p:=⟨w.heap.size,0,none⟩) (Has.other hh (show Has W w.heap.size 3 #[.int .i64 N]from HBL.out) (by decide)) _⟩,?_⟩;dsimp only;rw[HFJ.out];exact⟨HBL.out.set _,HB5.out.setCell (p:=⟨w.heap.size,0,none⟩) (by simp) _⟩
 case done=>
  rintro D ys W hD ⟨L,hp,hso,rfl⟩ ⟨hbl,hB⟩ hK;have e1:=sumW_total hp hso (by rw[HLN.out];exact HN.out);rw[e1]at hbl;have c2:=hbl.cell;have HB5:=zq hB;clear hbl hB hp hso e1
  gi_wp2
  refine⟨by simp,.inl ⟨_,_,rfl,run_takeDeferred hK,?_⟩⟩;exact⟨_,results_tmp rfl _ _ _,rfl,HB5.out.trans (belowK_b (w:=w) (Nat.le_refl _) W D _ _ (by have:=HS4.out;omega) hK rfl rfl)⟩
end
section
open Go.RowKit
open Go.Great
theorem oix_nl (p:Int->Bool)(l:List Int)(A:Option Addr)(n c:Nat)(w:World)(hs:SlO inC 1 w A n c l)(hbig:n<=1048576)
  (HE:Hid (∀(x:Int) W,Below w.heap.size w W->Calls Tryz.prog 147 #[.int .i64 x] W fun e w'=>e= .returned (.bool (p x))/\Below W.heap.size W w')):
  Calls Tryz.prog 173 #[.slice A n c,.func (.func 147) #[] #[]] w fun e w'=>e= .returned (.int .i64 (idxL p l))/\Below w.heap.size w w':=by
 have HN:Hid (l.length=n):=zq hs.len13;have HW:=zq hs;clear hs;have x0:(0:Int)<=n:=by omega
 obtain⟨R,hR⟩:=geZ (idxL p l);have HR:=zq hR;rw[hR];clear hR;go_enter Tryz.func173,Tryz.ntmps173;go_wp2;go_loopg [8] n (fun kk v wl=> ∃j:Nat,j<=n/\n-j<=kk/\v= .int .i64 j/\Hid (∀i x,i<j->l[i]?=some x->p x=false)/\Hid (Below w.heap.size w wl))
 case atStart=>exact⟨0,by omega,by omega,rfl,zq fun i x h=>absurd h (by omega),zq (Below.refl _ _)⟩
 obtain⟨j,hj,hjk,rfl,HNO,HBL⟩:=hrel;by_cases hlt:j<n
 ·obtain⟨x,hx⟩:=glZ l (j) (by rw[HN.out];omega)
  obtain⟨bk,off,rfl,d0⟩:=(HW.out.under HBL.out).int13 hx;have HX:=zq hx;have y0:(0:Int)<=j:=by omega
  have y1:(j:Int)<n:=by omega
  have HC:=zq (HE.out x wr HBL.out);clear hx;generalize hb:p x=b at*;have HBE:=zq hb;clear hb
  cases b with
  |true=>
   have HF:Hid (R=j):=zq (by rw[<-HR.out];exact qbE HX.out HBE.out HNO.out);go_upto_region 4 with fail;go_wp2_with fail;refine HC.out.mono ?_;rintro e w1 ⟨rfl,hb1⟩;have HB1:=tB HBL hb1;clear hb1 d0 HBE HNO;go_wp2;go_ret
   exact⟨by rw[HF.out];rfl,HB1.out⟩
  |false=>
   go_upto_region 4 with fail;go_wp2_with fail;refine HC.out.mono ?_;rintro e w1 ⟨rfl,hb1⟩;have HB1:=tB HBL hb1;have HN2:Hid (∀i y,i<j+1->l[i]?=some y->p y=false):=zq fun i y hi hy=>by
    by_cases h:i=j
    ·subst h;rw[HX.out]at hy;cases hy;exact HBE.out
    ·exact HNO.out i y (by omega) hy
   clear hb1 d0 HBE HNO;go_wp2;go_roundg (gk-1)
   case measure=>omega
   case rel=>exact⟨j+1,by omega,by omega,by go_num,HN2,HB1⟩
 ·have y1: ¬(j:Int)<n:=by omega
  have HF:Hid (R= -1):=zq (by rw[<-HR.out];exact qbc fun i y hi hy=>HNO.out i y (by have:=HN.out;omega) hy);go_wp2;go_ret
  exact⟨by rw[HF.out];rfl,HBL.out⟩
theorem oct_nl (p:Int->Bool)(l:List Int)(A:Option Addr)(n c:Nat)(w:World)(hs:SlO inC 1 w A n c l)(hbig:n<=1048576)
  (HE:Hid (∀(x:Int) W,Below w.heap.size w W->Calls Tryz.prog 147 #[.int .i64 x] W fun e w'=>e= .returned (.bool (p x))/\Below W.heap.size W w')):
  Calls Tryz.prog 99 #[.slice A n c,.func (.func 147) #[] #[]] w fun e w'=>e= .returned (.bool (l.any p))/\Below w.heap.size w w':=by
 have H:=zq (oix_nl p l A n c w hs hbig HE);clear hs HE;rw[<-qbn];generalize idxL p l=R at*;go_enter Tryz.func99,Tryz.ntmps99;go_wp2_with fail;refine H.out.mono ?_;rintro e w1 ⟨rfl,hb1⟩;have HB1:=zq hb1;clear hb1 H;go_wp2;go_ret
 exact⟨rfl,HB1.out⟩
theorem osn_union (a b:List Sn3)(A B:Option Addr)(n c m d:Nat)(w:World)(ha:SlO snC 3 w A n c a)(hb:SlO snC 3 w B m d b)(_:n<=c)(_:m<=d)(hn:n<=4096)(hm:m<=4096):Calls Tryz.prog 195 #[.slice A n c,.slice B m d] w fun r w'=> ∃X x,r= .returned (.slice X (qcK a b).length x)/\SlO snC 3 w' X (qcK a b).length x (qcK a b)/\(qcK a b).length<=x/\Below w.heap.size w w':=by
 have H:=zq (oscollect_any 219 (fun x y=>x||y) ⟨true,true,true⟩ (fun x y W=>oskU x y W) (enters_of Tryz.func219 (by kernel_rfl) rfl) (by intro x y;cases x<;>cases y<;>decide) a b A B n c m d w ha hb hn hm);unfold qcK;generalize formL a b ⟨true,true,true⟩=R at*;clear ha hb hn hm;go_enter Tryz.func195,Tryz.ntmps195;go_wp2_with fail;refine H.out.mono ?_;rintro e_ w1 ⟨X,x,rfl,hs1,hc1,hb1⟩;have HS1:=zq hs1;have HC1:=zq hc1;have HB1:=zq hb1;clear hs1 hc1 hb1 H;go_wp2;go_ret
 exact⟨X,x,rfl,HS1.out,HC1.out,HB1.out⟩
theorem norm_union (l:List Sn3):qcK l []=normL l:=qb4 (qcv l []) (qbi l) fun e x=>by
 rw[qdj,qcs];simp[hasL]
theorem osn_norm (l:List Sn3)(A:Option Addr)(n c:Nat)(w:World)(hs:SlO snC 3 w A n c l)(hc:n<=c)(hn:n<=4096):Calls Tryz.prog 149 #[.slice A n c] w fun r w'=> ∃X x,r= .returned (.slice X (normL l).length x)/\SlO snC 3 w' X (normL l).length x (normL l)/\(normL l).length<=x/\Below w.heap.size w w':=by
 have H:=zq (osn_union l [] A none n c 0 0 w hs (SlO.nil _ _ _) hc (Nat.le_refl _) hn (by omega));rw[norm_union]at H;generalize normL l=R at*;clear hs hc hn;go_enter Tryz.func149,Tryz.ntmps149;go_wp2_with fail;refine H.out.mono ?_;rintro e_ w1 ⟨X,x,rfl,hs1,hc1,hb1⟩;have HS1:=zq hs1;have HC1:=zq hc1;have HB1:=zq hb1;clear hs1 hc1 hb1 H;go_wp2;go_ret
 exact⟨X,x,rfl,HS1.out,HC1.out,HB1.out⟩
end
section
open Go.RowKit
open Go.Great
theorem otp_length_n (t:Tp3)(a:TpA)(path:List St3)(A:Option Addr)(n c:Nat)(w:World)(ht:TopR w t a)(hp:SlO stC 2 w A n c path)(hn:n<=1048576)(hl:qaH t=true):
  Calls Tryz.prog 146 #[.agg (tpC t a),.slice A n c] w fun e w'=> ∃N:Int,e= .returned (.tuple #[.int .i64 N,.int .i64 (lenE t path)])/\(qav t=true->N=lenN t path)/\Below w.heap.size w w':=by
 cases hq:qav t with
 |true=>exact(qep t a path A n c w ht hp hn hl hq).mono fun e w' h=>⟨_,h.1,fun _=>rfl,h.2⟩
 |false=>exact(qeP t a path A n c w ht hp hn hl).mono fun e w' h=>by obtain⟨N,h1,h2⟩:=h;exact⟨N,h1,(fun h=>by cases h),h2⟩
theorem edges_any (t:Tp3):(t.edges.any noLen)=!qav t:=by
 unfold qav;rw[List.not_all_eq_any_not]
 congr 1
 funext x
 rw[Bool.eq_iff_iff];unfold noLen;simp only[Bool.or_eq_true,decide_eq_true_eq,Bool.not_eq_true',Bool.and_eq_false_iff,decide_eq_false_iff_not];omega
theorem ovr_len {t:Tp3}{path:List St3}{fr tz:Int}(h:lenE t path≠0):overE t path fr tz=([],lenE t path):=if_neg h
theorem ovr_edges {t:Tp3}{path:List St3}{fr tz:Int}(h:lenE t path=0)(h2:qav t=false):overE t path fr tz=([],1):=by
 unfold overE;rw[if_pos h,if_neg (by rw[h2];rintro⟨h3,_⟩;cases h3)]
theorem ovr_args {t:Tp3}{path:List St3}{fr tz:Int}(h:lenE t path=0)(h2:fr<0\/tz<fr\/sumT t path<tz):overE t path fr tz=([],1):=by
 unfold overE;rw[if_pos h,if_neg (fun h3=>h3.2 h2)]
theorem sumT_le {t:Tp3}{path:List St3}(h: ∀s∈path,lenAt t s<=1000000):sumT t path<=path.length*1000000:=by
 induction path with
 |nil=>simp[sumT]
 |cons s r ih=>
  have h1:=h s (List.mem_cons_self ..);have h2:=ih fun u hu=>h u (List.mem_cons_of_mem _ hu);rw[List.length_cons];unfold sumT;omega
theorem way_edges {t:Tp3}{path:List St3}(h:lenE t path=0): ∀s∈path,0<=s.edge/\s.edge<t.edges.length:=fun s hs=>by
 unfold lenE at h;split at h
 ·cases h
 ·split at h
  ·rename_i h2
   have h3:=List.all_eq_true.1 h2 s hs;unfold edgeB at h3
   simpa using h3
  ·cases h
def secGo (t:Tp3)(fr tz:Int):List St3->Int->List Sn3
 |[],_=>[]
 |s::r,at_=>secN s (lenAt t s) (fr-at_) (tz-at_)::secGo t fr tz r (at_+lenAt t s)
theorem sec_at {t:Tp3}{fr tz at_:Int}{path:List St3}{i:Nat}{x:St3}(hx:path[i]?=some x):secGo t fr tz (path.drop i) at_=secN x (lenAt t x) (fr-at_) (tz-at_)::secGo t fr tz (path.drop (i+1)) (at_+lenAt t x):=by
 obtain⟨h1,e⟩:=List.getElem?_eq_some_iff.1 hx;rw[List.drop_eq_getElem_cons h1,e,secGo]
theorem sec_part {t:Tp3}{fr tz at_ e x:Int}{s:St3}:hasS (secN s (lenAt t s) (fr-at_) (tz-at_)) e x=hasL (partN s (lenAt t s) (cutA fr at_) (cutB tz at_ (lenAt t s))) e x:=by
 rw[cut_eqA,cut_eqB];generalize lenAt t s=n;obtain⟨se,sr⟩:=s;rw[Bool.eq_iff_iff];unfold secN partN;dsimp only;by_cases h:max 0 (fr-at_)<min n (tz-at_)
 ·rw[if_pos h]
  cases sr
  ·simp only[hasL,List.any_cons,List.any_nil,Bool.or_false]
   rw[if_neg (by decide),if_neg (by decide),qaq,qaq];dsimp only;omega
  ·simp only[hasL,List.any_cons,List.any_nil,Bool.or_false]
   rw[if_pos trivial,if_pos trivial,qaq,qaq];dsimp only;omega
 ·rw[if_neg h]
  cases sr
  ·rw[if_neg (by decide),qaq]
   simp only[hasL,List.any_nil]
   try dsimp only
   constructor
   ·omega
   ·intro h2;cases h2
  ·rw[if_pos rfl,qaq]
   simp only[hasL,List.any_nil]
   try dsimp only
   constructor
   ·omega
   ·intro h2;cases h2
theorem sec_has (t:Tp3)(fr tz:Int)(path:List St3)(at_ e x:Int):hasL (secGo t fr tz path at_) e x=hasL (ovGo t fr tz path at_) e x:=by
 induction path generalizing at_ with
 |nil=>rfl
 |cons s r ih=>rw[secGo,ovGo,qbf,qdr,ih,sec_part]
theorem sec_norm (t:Tp3)(fr tz:Int)(path:List St3):normL (secGo t fr tz path 0)=normL (ovGo t fr tz path 0):=norm_of (qbi _) fun e x=>by rw[qcs,sec_has]
theorem osn_over0 (t:Tp3)(a:TpA)(path:List St3)(A:Option Addr)(n c:Nat)(fr tz:Int)(w:World)(ht:TopR w t a)(hp:SlO stC 2 w A n c path)(hn:n<=100)(hl:qaH t=true):Calls Tryz.prog 75 #[.agg (tpC t a),.slice A n c,.int .i64 fr,.int .i64 tz] w fun r w'=> ∃X x,r= .returned (.tuple #[.slice X (overE t path fr tz).1.length x,.int .i64 (overE t path fr tz).2])/\SlO snC 3 w' X (overE t path fr tz).1.length x (overE t path fr tz).1/\(overE t path fr tz).1.length<=x/\Below w.heap.size w w':=by
 obtain⟨rL,hrL⟩: ∃r,(overE t path fr tz).1=r:=⟨_,rfl⟩
 obtain⟨rE,hrE⟩: ∃r,(overE t path fr tz).2=r:=⟨_,rfl⟩
 have HOE:=zq (show overE t path fr tz=(rL,rE)from Prod.ext hrL hrE);rw[hrL,hrE];clear hrL hrE;have HNN:=zq (qax hl);have HNL:=zq hn;have HL:=zq hp.1;have HLT:=zq hl;obtain⟨wa,hwa,hbwa,HWA,HBWA,h0⟩:=bx1Z w 27 (tpC t a);have HT:=zq (fun W (hW:Below w.heap.size w W)=>ht.under hW);have HPA:=zq (fun W (hW:Below w.heap.size w W)=>hp.under hW);have H0:=zH h0;have HBA:=zq (fun W (hW:Below wa.heap.size wa W)=>hbwa.trans (hW.mono hbwa.size));clear hwa hbwa h0 ht hp hl hn;go_enter Tryz.func75,Tryz.ntmps75;go_upto_region 1 with fail;rw[HWA.out];clear HWA;go_wp2_with (with_reducible refine ldZ 17 (H0.out wa (Below.refl _ _)) ?_);refine(otp_length_n t a path A n c wa (HT.out _ HBWA.out) (HPA.out _ HBWA.out) (by have:=HNL.out;omega) HLT.out).mono ?_;rintro e w1 ⟨N,rfl,hN,hb1⟩;have HB1:=zq hb1;have HNE:=zq hN;clear hb1 hN;by_cases z0:lenE t path=0;rotate_left
 ·have q0:(lenE t path !=0)=true:=by simp[z0]
  have HR:=zq (show rL=[]/\rE=lenE t path from by have h_:=HOE.out;rw[ovr_len z0]at h_;injection h_ with h1_ h2_;exact⟨h1_.symm,h2_.symm⟩);obtain⟨h1_,h2_⟩:=HR.out;subst h1_ h2_;clear HR HOE;go_wp2;go_ret2
  exact⟨none,0,rfl,SlO.nil _ _ _,Nat.le_refl _,HBA.out _ HB1.out⟩
 rw[z0];have HZ:=zq z0;clear z0;by_cases z1:fr<0
 ·skip
  have HR:=zq (show rL=[]/\rE=1 from by have h_:=HOE.out;rw[ovr_args HZ.out (.inl z1)]at h_;injection h_ with h1_ h2_;exact⟨h1_.symm,h2_.symm⟩);obtain⟨h1_,h2_⟩:=HR.out;subst h1_ h2_;clear HR HOE;go_wp2;go_ret2
  exact⟨none,0,rfl,SlO.nil _ _ _,Nat.le_refl _,HBA.out _ HB1.out⟩
 by_cases z2:tz<fr
 ·skip
  have HR:=zq (show rL=[]/\rE=1 from by have h_:=HOE.out;rw[ovr_args HZ.out (.inr (.inl z2))]at h_;injection h_ with h1_ h2_;exact⟨h1_.symm,h2_.symm⟩);obtain⟨h1_,h2_⟩:=HR.out;subst h1_ h2_;clear HR HOE;go_wp2;go_ret2
  exact⟨none,0,rfl,SlO.nil _ _ _,Nat.le_refl _,HBA.out _ HB1.out⟩
 have HE:Hid (∀(x:Int) W,Below w1.heap.size w1 W->Calls Tryz.prog 147 #[.int .i64 x] W fun e w'=>e= .returned (.bool (noLen x))/\Below W.heap.size W w'):=zq fun x W _=>(osnl_any x W).mono fun e w' h=>⟨h.1,by rw[<-h.2];exact Below.refl _ _⟩
 have HQ:=zq (oct_nl noLen t.edges a.ae t.edges.length a.ce w1 (HT.out _ (HBA.out _ HB1.out)).e (by have:=HNN.out.1;omega) HE);rw[edges_any]at HQ;clear HE;have c0:w1.cell? ⟨w.heap.size,0,none⟩=some (.slice a.ae t.edges.length a.ce):=(H0.out _ HB1.out).cell 0;obtain⟨q,hq⟩:=geZ (qav t);rw[hq]at HQ HNE;have HOK:=zq hq;clear hq;obtain⟨me,hme⟩: ∃m,t.edges.length=m:=⟨_,rfl⟩
 rw[hme]at c0 HQ;have HME:=zq hme;clear hme
 cases q with
 |false=>
  have HR:=zq (show rL=[]/\rE=1 from by have h_:=HOE.out;rw[ovr_edges HZ.out HOK.out]at h_;injection h_ with h1_ h2_;exact⟨h1_.symm,h2_.symm⟩);obtain⟨h1_,h2_⟩:=HR.out;subst h1_ h2_;clear HR HOE;rw[Bool.not_false]at HQ;by_cases z3:N<tz
  ·go_wp2
   go_ret2
   exact⟨none,0,rfl,SlO.nil _ _ _,Nat.le_refl _,HBA.out _ HB1.out⟩
  go_wp2_with fail;refine HQ.out.mono ?_;rintro e w2 ⟨rfl,hb2⟩;have HB2:=tB HB1 hb2;clear hb2 HQ c0;go_wp2;go_ret2
  exact⟨none,0,rfl,SlO.nil _ _ _,Nat.le_refl _,HBA.out _ HB2.out⟩
 |true=>
  have HNS:Hid (N=sumT t path):=zq (by rw[HNE.out rfl];unfold lenN;first|rw[if_pos HZ.out]|simp[HZ.out]|rfl);rw[Bool.not_true]at HQ;by_cases z3:N<tz
  ·skip
   have HR:=zq (show rL=[]/\rE=1 from by have h_:=HOE.out;rw[ovr_args HZ.out (.inr (.inr (by rw[<-HNS.out];exact z3)))]at h_;injection h_ with h1_ h2_;exact⟨h1_.symm,h2_.symm⟩);obtain⟨h1_,h2_⟩:=HR.out;subst h1_ h2_;clear HR HOE;go_wp2;go_ret2
   exact⟨none,0,rfl,SlO.nil _ _ _,Nat.le_refl _,HBA.out _ HB1.out⟩
  have HR:=zq (show rL=normL (secGo t fr tz path 0)/\rE=0 from by have h_:=HOE.out;rw[over_ok HZ.out HOK.out (by omega) (by omega) (by rw[<-HNS.out];omega)]at h_;injection h_ with h1_ h2_;exact⟨by rw[sec_norm];exact h1_.symm,h2_.symm⟩);obtain⟨h1_,h2_⟩:=HR.out;subst h1_ h2_;clear HR HOE;have HWN:=zq (way_nums HZ.out HOK.out);have HRA:=zq (show 0<=fr/\fr<=tz/\tz<=N from by omega);have HNB:Hid (N<=100000000):=zq (by rw[HNS.out];have h1_:=sumT_le (t:=t) (path:=path) (fun s hs=>(HWN.out s hs).2.2);have h2_:=HL.out;have h3_:=HNL.out;omega);have HED:=zq (way_edges HZ.out);clear HZ HOK HNE HLT;go_wp2_with fail;refine HQ.out.mono ?_;rintro e w2 ⟨rfl,hb2⟩;have HB2:=tB HB1 hb2;clear hb2 HQ c0 HB1;go_wp2;clear z1 z2 z3;go_loopg [2,3,12,46] n (fun kk v2 v3 v12 v46 wl=> ∃(i:Nat) (X:Option Addr) (x:Nat) (at_ f2 z2:Int) (q:List Sn3),i<=n/\n-i<=kk/\v46= .int .i64 i/\v2= .int .i64 f2/\v3= .int .i64 z2/\v12= .slice X i x/\Hid (f2=fr-at_/\z2=tz-at_/\0<=at_/\at_<=i*1000000)/\Hid (q++secGo t fr tz (path.drop i) at_=secGo t fr tz path 0)/\Hid (OwR snC 3 119 wa.heap.size wl X i x q)/\Hid (Below wa.heap.size wa wl))
  case atStart=>exact⟨0,none,0,0,fr,tz,[],by omega,by omega,rfl,rfl,rfl,rfl,zq (by omega),zq rfl,zq (OwR.nil _ _ _ _ _),HB2⟩
  obtain⟨i,X,x,at_,f2,z2,q,hi,hik,rfl,rfl,rfl,rfl,HAT,HQQ,HO,HB⟩:=hrel;obtain⟨k1,hk1⟩: ∃k1,k1=gk:=⟨_,rfl⟩
  subst hk1;obtain⟨wv,hwv⟩: ∃wv,wv=wr:=⟨_,rfl⟩
  subst hwv;clear HB2;by_cases hlt:i<n;rotate_left
  ·obtain rfl:i=n:=by omega
   have x1: ¬(i:Int)<i:=by omega
   have HE:Hid (q=secGo t fr tz path 0):=zq (by have h_:=HQQ.out;rw[List.drop_of_length_le (by rw[HL.out];exact Nat.le_refl _)]at h_;simpa[secGo]using h_);clear hik hlt;go_wp2_with fail;refine(osn_norm q X i x wv HO.out.sl HO.out.cap (by have:=HNL.out;omega)).mono ?_;rw[HE.out];rintro e_ w3 ⟨Y,y,rfl,hs1,hc1,hb1⟩;have HS1:=zq hs1;have HC1:=zq hc1;have HB3:=tB HB hb1;clear hs1 hc1 hb1;go_wp2;go_ret2
   exact⟨Y,y,rfl,HS1.out,HC1.out,HBA.out _ HB3.out⟩
  obtain⟨s,hs⟩:=glZ path (i) (by rw[HL.out];exact hlt);have HSE:=zq (sec_at (t:=t) (fr:=fr) (tz:=tz) (at_:=at_) hs);have HW1:=zq (HWN.out s (List.mem_of_getElem? hs));have hed:=HED.out s (List.mem_of_getElem? hs);obtain⟨bk,off,rfl,d0,d1⟩:=(HPA.out _ (HBA.out _ HB.out)).step hs;clear hs;obtain⟨e,hee⟩: ∃e:Nat,s.edge=e:=⟨s.edge.toNat,by omega⟩
  have hel:e<t.edges.length:=by omega
  have HLA:Hid (lenAt t s=t.edges.getD e 0):=zq (by unfold lenAt;rw[hee];first|rfl|simp);obtain⟨ln,hln⟩:=geZ (lenAt t s);rw[hln]at HSE HW1 HLA;obtain⟨se,sr⟩:=s;dsimp only at hee hed d0 d1;subst hee;clear hln hed;obtain⟨f3,hf3⟩:=geZ (f2-ln);obtain⟨z3,hz3⟩:=geZ (z2-ln);have HBD2:Hid (-1000000000<=f2/\f2<=1000000000/\ -1000000000<=z2/\z2<=1000000000):=zq (by have h1_:=HAT.out;have h2_:=HRA.out;have h3_:=HNB.out;have h4_:=HNL.out;omega);have hwf:wrap64 (f2-ln)=f3:=by rw[IntWalk.wrap64_in _ (by have h1_:=HBD2.out;have h2_:=HW1.out;omega)];exact hf3
  have hwz:wrap64 (z2-ln)=z3:=by rw[IntWalk.wrap64_in _ (by have h1_:=HBD2.out;have h2_:=HW1.out;omega)];exact hz3
  have HF3:Hid (f3=fr-(at_+ln)/\z3=tz-(at_+ln)/\0<=at_+ln/\at_+ln<=((i+1:Nat):Int)*1000000):=zq (by have h1_:=HAT.out;have h2_:=HW1.out;omega);have HIN:=zq (show i<n/\n-i<=k1 from⟨hlt,hik⟩);have HEL:=zq hel;have x1:(i:Int)<n:=by omega
  have x2:(0:Int)<=i:=by omega
  clear hf3 hz3 hlt hik hel hi;go_upto_region 10 with fail;obtain⟨wb,hwb⟩:=geZ (wv.alloc (.cells #[.int .i64 (e:Nat),.bool sr] 30));rw[hwb];have hbb:Below wv.heap.size wv wb:=by rw[<-hwb];exact bA
  have hH:Has wb wv.heap.size 30 #[.int .i64 (e:Nat),.bool sr]:=by rw[<-hwb];exact Has.made _ _ _
  have HWB:=tB HB hbb;have HO1:=zq (HO.out.under hbb);have hc0:wb.cell? ⟨wv.heap.size,0,none⟩=some (.int .i64 (e:Nat)):=hH.cell 0;have hc1:wb.cell? ⟨wv.heap.size,1,none⟩=some (.bool sr):=hH.cell 1;obtain⟨be,oe,hae,ce⟩:=(HT.out _ (HBA.out _ HWB.out)).e.edge HEL.out;have c0:=(H0.out _ HWB.out).cell 0;have c0':wb.cell? ⟨w.heap.size,0,none⟩=some (.slice (some ⟨be,oe,none⟩) t.edges.length a.ce):=by first|exact c0.trans (by rw[<-hae];rfl)|(rw[<-hae];exact c0)
  have z0:(0:Int)<=e:=by omega
  have z1:(e:Int)<t.edges.length:=by have:=HEL.out;omega
  rw[<-HLA.out]at ce;rw[HME.out]at c0' z1;clear hwb hbb hH c0 hae d0 d1 HO HB;go_wp2_with fail;refine(ossec_any ⟨(e:Nat),sr⟩ ln f2 z2 wb (by have:=HW1.out;omega) (by have:=HBD2.out;omega) (by have:=HBD2.out;omega)).mono ?_;rintro e_ v1 ⟨rfl,hb1⟩;have HB1:=tB HWB hb1;have HO2:=zq (HO1.out.under hb1);have HZZ:=zq (show secN ⟨(e:Nat),sr⟩ ln (fr-at_) (tz-at_)=secN ⟨(e:Nat),sr⟩ ln f2 z2 from by have h_:=HAT.out;rw[h_.1,h_.2.1]);rw[HZZ.out]at HSE;generalize secN ⟨(e:Nat),sr⟩ ln f2 z2=Z at*;obtain⟨ze,zl,zh⟩:=Z;unfold snA;dsimp only;clear hb1 HZZ hc0 hc1 ce c0' z0 z1 HO1 HWB;obtain⟨hN,hO,hC,h1,hBD⟩:=pushR (f:=snC) (k:=3) (e:=119) (w:=v1) 24 ⟨ze,zl,zh⟩ #[.int .i64 ze,.int .i64 zl,.int .i64 zh] rfl rfl (qbj _) HO2.out HB1.out.size (by have h1_:=HIN.out;have h2_:=HNL.out;omega) (by omega);have HBW:=zq (show Below wa.heap.size wa (v1.alloc (.cells #[.int .i64 ze,.int .i64 zl,.int .i64 zh] 119))from HB1.out.alloc HB1.out.size _);have HLN:=zq HO2.out.2;clear HB1;go_wp2_with (with_reducible refine qao (o:=⟨some 63,_,_,_,_,_⟩) rfl (.tmp 56) (.tmp 62) 52 rfl wa.heap.size 119 (.agg #[.int .i64 0,.int .i64 0,.int .i64 0]) 3 24 Tryz.underlying52 qaR ?hz1 (by decide) X (i) x ((q).flatMap snC) ?hs1 hO ⟨v1.heap.size,0,none⟩ 1 1 (snC ⟨ze,zl,zh⟩) ?hx1 hN hC h1 hBD ?next1)
  all_goals try rfl
  intro A1 c1 v2 ho hg;have HO3:=zq (OwR.snoc HLN.out ho.out);have HB3:=zq (qai HBW.out HBW.out.size hO.out (Nat.le_refl _) rfl hg.out);clear ho hg hN hO hC h1 hBD HBW HLN HO2;go_wp2;go_roundg (k1-1)
  case measure=>have:=HIN.out;omega
  case rel=>
   exact⟨i+1,A1,c1,at_+ln,f3,z3,q++[⟨ze,zl,zh⟩],by have:=HIN.out;omega,by have:=HIN.out;omega,by rw[IntWalk.wrap64_in _ (by have h1_:=HIN.out;have h2_:=HNL.out;omega)];go_num,by first|rfl|rw[hwf],by first|rfl|rw[hwz],rfl,HF3,zq (by have h_:=HQQ.out;rw[HSE.out]at h_;rw[List.append_assoc];exact h_),HO3,HB3⟩
end
section
open Go.RowKit
open Go.Great
theorem OwR.rowlow17 {α:Type}{f:α->List Value}{k:Nat}{e:TypeId}{base g:Nat}{w:World}{A:Option Addr}{n c:Nat}{l:List α}(h:OwR f k e base w A n c l)(hg:g<base)(cs:Array Value):OwR f k e base (w.setRow g cs) A n c l:=
 h.kept (qal w g cs) (.inr fun e_=>by
  have:=(h.1.lt g e_).1;omega)
theorem first_at17 {path:List St3}{s x:St3}(h:path[0]?=some x):qge path s=eqS x s:=by
 cases path with
 |nil=>cases h
 |cons y r=>
  injection h with h
  subst h
  rfl
theorem pathOk_lp17 {t:Tp3}{path:List St3}(h:qdH t path=true):lenE t path=0/\path.length<=24:=by
 unfold qdH at h;simp only[Bool.and_eq_true,decide_eq_true_eq]at h;exact⟨h.1,h.2.1⟩
theorem last_top17 {M p:Int}{l:List Sc3}(hp:p<=M)(h: ∀s∈l,s.to_<=M):qbt p l<=M:=by
 induction l generalizing p with
 |nil=>exact hp
 |cons s r ih=>exact ih (h s (List.mem_cons_self ..)) fun x hx=>h x (List.mem_cons_of_mem _ hx)
theorem head_le17 {t:Tp3}{path:List St3}{s:St3}(h:path[0]?=some s)(hp: ∀x∈path,1<=lenAt t x/\lenAt t x<=1000000):lenAt t s<=sumT t path:=by
 cases path with
 |nil=>cases h
 |cons y r=>
  injection h with h
  subst h;have h1:0<=sumT t r:=by
   have h2: ∀x∈r,1<=lenAt t x/\lenAt t x<=1000000:=fun x hx=>hp x (List.mem_cons_of_mem _ hx);clear hp
   induction r with
   |nil=>exact Int.le_refl _
   |cons z q ih=>
    have h3:=h2 z (List.mem_cons_self ..);have h4:=ih fun x hx=>h2 x (List.mem_cons_of_mem _ hx);show 0<=lenAt t z+sumT t q
    omega
  show lenAt t y<=lenAt t y+sumT t r
  omega
theorem may_loc17 {t:Tp3}{m:Ma3}(h:mayM t m=true): ∃x,locE t m.ref m.rev 0=(x,0)/\qa4 t x=true/\qbG t m=intoP t x/\qaE t=0:=by
 have h0:(locE t m.ref m.rev 0).2=0:=by
  by_cases h1:(locE t m.ref m.rev 0).2=0
  ·exact h1
  ·rw[may_no17 h1]at h;cases h
 have h2:locE t m.ref m.rev 0=((locE t m.ref m.rev 0).1,0):=Prod.ext rfl h0;obtain⟨hc,hb,hr,hp⟩:=qcY h2;have hm:=qdW.1 h;have hpl:=hp m rfl rfl;exact⟨_,h2,hr,qcQ hpl hr hm.len (by have h3:=hm.first;rw[hpl]at h3;exact h3),hc⟩
theorem sects_lp17 {l:List Sc3}(h:qdB l=true):0<=qbt 0 l/\1<=l.length/\l.length<=8:=by
 unfold qdB at h;simp only[Bool.and_eq_true,decide_eq_true_eq]at h;exact⟨ris_last h.1,h.2.1,h.2.2⟩
theorem qdc (t:Tp3)(a:TpA)(p:Ps3)(w:World)(ht:TopR w t a)(hl:qaH t=true)(hcj:t.joints.length<=a.cj):
  Calls Tryz.prog 74 #[.agg (tpC t a),.agg (psA p)] w fun r w'=>r= .returned (.int .i64 (onE t [stepP p] p).1)/\Below w.heap.size w w':=by
 obtain⟨pe,pa,pr⟩:=p;unfold psA stepP;dsimp only;obtain⟨wa,hwa,hbwa,HWA,HBWA,h0,h1⟩:=bx2Z w 27 (tpC t a) 51 #[.int .i64 pe,.int .i64 pa,.bool pr];have HT:=zq (fun W (hW:Below wa.heap.size wa W)=>(ht.under hbwa).under hW);have HLT:=zq hl;have HCJ:=zq hcj;have H0:=zH h0;have H1:=zH h1;obtain⟨Rv,hRv⟩: ∃R,onE t [⟨pe,pr⟩] ⟨pe,pa,pr⟩=R:=⟨_,rfl⟩
 have HR:=zq hRv;rw[hRv];have HSO:=zq (fun W=>qcC ⟨pe,pa,pr⟩ W);unfold psA stA13 stepP at HSO;dsimp only at HSO;clear hwa hbwa h0 h1 ht hl hcj hRv;go_enter Tryz.func74,Tryz.ntmps74;go_upto_region 1 with fail;rw[HWA.out];clear HWA;refine wp_region_held_drew (S:=(fun W_=>(Has W_ (w.heap.size) 27 (tpC t a))/\(Has W_ (w.heap.size+1) 51 #[.int .i64 pe,.int .i64 pa,.bool pr])/\(Below wa.heap.size wa W_))) (by kernel_rfl) ?_ (fun hHeld=>?_)
 ·exact⟨(H0.out _ (Below.refl _ _)).draw,(H1.out _ (Below.refl _ _)).draw,qaf (Below.refl _ _)⟩
 refine tlZ 0 8 w.heap.size (tpC t a) (fun _ ⟨h_,_,_⟩=>h_) (h:=?_);simp only[lyZ];refine tlZ 1 9 (w.heap.size+1) #[.int .i64 pe,.int .i64 pa,.bool pr] (fun _ ⟨_,h_,_⟩=>h_) (h:=?_);simp only[lyZ];refine tlZ 4 12 (w.heap.size+1) #[.int .i64 pe,.int .i64 pa,.bool pr] (fun _ ⟨_,h_,_⟩=>h_) (h:=?_);simp only[lyZ];refine aoZ 2 (some 10) (fun K hK=>?_);go_simp;obtain⟨s0,s1,s2⟩:=hHeld;refine(HSO.out _).mono ?_;rintro e_ q1 ⟨rfl,hb_⟩;go_wp2_with fail;refine hK.out _ _ ?_ (fun hHeld=>?_)
 ·exact⟨s0.u hb_,s1.u hb_,bu s2 hb_⟩
 clear hK K s0 s1 s2
 try simp only[lyZ]
 refine aoZ 3 (some 11) (fun K hK=>?_);go_simp;obtain⟨s0,s1,s2⟩:=hHeld;obtain⟨gS,hgS⟩:=geZ (q1.heap.size);have p0_gS:w.heap.size<gS:=by rw[<-hgS];exact s0.lt
 have p1_gS:w.heap.size+1<gS:=by rw[<-hgS];exact s1.lt
 have p2_gS:wa.heap.size<=gS:=by rw[<-hgS];exact s2.size
 rw[hgS];refine hK.out _ _ ?_ (fun hHeld=>?_)
 ·exact⟨s0.beside _,s1.beside _,qan s2 _⟩
 refine mr3 (fun W_=>(Has W_ (gS) 30 #[.int .i64 pe,.bool pr])) ⟨s0.beside _,s1.beside _,qan s2 _,(by rw[<-hgS];exact Has.made _ _ _)⟩ (fun h_=>?_);clear hHeld;have hHeld:=h_;clear h_;clear hK K hgS s0 s1 s2
 try simp only[lyZ]
 refine aoZ 5 (some 13) (fun K hK=>?_);go_simp;obtain⟨s0,s1,s2,s3⟩:=hHeld;refine(opl_on t a [⟨pe,pr⟩] (some ⟨gS,0,none⟩) 1 1 ⟨pe,pa,pr⟩ _ (HT.out _ s2) HLT.out HCJ.out ⟨rfl,qa7 s3 rfl⟩ (by omega) (by omega)).mono ?_;rw[HR.out];rintro e_ q2 ⟨rfl,hb2_⟩;go_wp2_with fail;refine hK.out _ _ ?_ (fun hHeld=>?_)
 ·exact⟨s0.u hb2_,s1.u hb2_,bu s2 hb2_,s3.u hb2_⟩
 clear hK K s0 s1 s2 s3
 try simp only[lyZ]
 refine tkZ 6 7 (h:=?_);simp only[lyZ];refine tkZ 7 14 (h:=?_);simp only[lyZ];refine tkZ 8 15 (h:=?_);simp only[lyZ];refine tkZ 9 5 (h:=?_);simp only[lyZ];refine tkZ 10 6 (h:=?_);simp only[lyZ];refine dnZ ?_;have HB1:=zq (HBWA.out.trans (hHeld.2.2.1.mono HBWA.out.size));clear hHeld;go_wp2;go_ret
 exact⟨rfl,HB1.out⟩
theorem qeO (t:Tp3)(a:TpA)(p x:Ps3)(n:Int)(w:World)(ht:TopR w t a)(hl:qaH t=true)(hcj:t.joints.length<=a.cj)(hw:walkE t p n=(x,0)):
  Calls Tryz.prog 76 #[.agg (tpC t a),.agg (psA p),.int .i64 n] w fun r w'=> ∃X c,r= .returned (.slice X (goneL t p n).length c)/\OwR stC 2 30 w.heap.size w' X (goneL t p n).length c (goneL t p n)/\Below w.heap.size w w':=by
 have HGK:=zq (gone_ok hw);have HOK:=zq (qaD HGK.out.1).1;have HIN:=zq (qb3 HOK.out (qaO.1 HGK.out.2.1).2);have HEN:=zq (qc9 HGK.out.2.1);have HED:=zq (HGK.out.2.2.2.2.1.edges);have HLA:=zq (fun(s:St3) (hs:edgeB t s.edge=true)=>qaT HOK.out hs);obtain⟨G,hG⟩:=geZ (goneL t p n);have HGP:=zq (show GoneP t p x n G from by rw[<-hG];exact HGK.out.2.2.2.2.1);have HGL:=zq (show G.length<=41 from by rw[<-hG];exact HGK.out.2.2.2.2.2);rw[hG]at HED;obtain⟨I,hI⟩:=geZ (intoP t p);obtain⟨J,hJ⟩:=geZ (I+n);rw[hI]at HIN HEN;have hed:=(qbh.1 (qaO.1 HGK.out.2.1).2).1;have HL0:=zq (HLA.out (stepP p) hed);have HJB:=zq (show 0<=J/\J<=2000000000000 from by have h1_:=HIN.out;have h2_:=HL0.out;have h3_:=HGK.out.2.2;omega);have hw1:IntKind.i64.wrap (I+n)=J:=by rw[IntKind.wrap_i64];have h1_:=HJB.out;omega
 have HST:=zq (show[]++qaW t 59 (stepP p) (J-lenAt t (stepP p))=G/\sumT t []+J=intoP t p+n from by
  refine⟨?_,by show 0+J=_;rw[hI];omega⟩;rw[<-hG];show qaW t 59 (stepP p) _=qaW t 59 (stepP p) _
  congr 1
  have h1_:intoP t p=lenAt t (stepP p)-qaB t p:=rfl;omega)
 rw[hG];obtain⟨pe,pa,pr⟩:=p;unfold psA;unfold stepP at HEN HST;dsimp only at HEN HST hed⊢;have HEP:=zq hed;obtain⟨wa,hwa,hbwa,HWA,HBWA,h0,h1⟩:=bx2Z w 27 (tpC t a) 51 #[.int .i64 pe,.int .i64 pa,.bool pr];have HT:=zq (fun W (hW:Below wa.heap.size wa W)=>(ht.under hbwa).under hW);have HLT:=zq hl;have HCJ:=zq hcj;have H0:=zH h0;have H1:=zH h1;have HSO:=zq (fun W=>qcC ⟨pe,pa,pr⟩ W);unfold psA stA13 stepP at HSO;dsimp only at HSO;have HEO:=zq (fun W (hW:Below wa.heap.size wa W)=>qdc t a ⟨pe,pa,pr⟩ W ((ht.under hbwa).under hW) hl hcj);unfold psA stepP at HEO;dsimp only at HEO;rw[HEN.out]at HEO;have HBZ:=zq hbwa.size;have HIJ:=zq hw1;clear hwa hbwa h0 h1 ht hl hcj hw hG hI hJ hw1 HEN hed;go_enter Tryz.func76,Tryz.ntmps76;go_upto_region 1 with fail;rw[HWA.out];clear HWA;go_cut [7,8] (fun s7 s8 wx=>s8= .int .i64 J/\ ∃gs,wa.heap.size<=gs/\s7= .pointer (some ⟨gs,0,none⟩)/\Has wx gs 30 #[.int .i64 pe,.bool pr]/\Below wa.heap.size wa wx)
 case first=>
  refine wp_region_held_drew (S:=(fun W_=>(Has W_ (w.heap.size) 27 (tpC t a))/\(Has W_ (w.heap.size+1) 51 #[.int .i64 pe,.int .i64 pa,.bool pr])/\(Below wa.heap.size wa W_))) (by kernel_rfl) ?_ (fun hHeld=>?_)
  ·exact⟨(H0.out _ (Below.refl _ _)).draw,(H1.out _ (Below.refl _ _)).draw,qaf (Below.refl _ _)⟩
  refine tlZ 0 10 (w.heap.size+1) #[.int .i64 pe,.int .i64 pa,.bool pr] (fun _ ⟨_,h_,_⟩=>h_) (h:=?_);simp only[lyZ];refine tlZ 2 12 w.heap.size (tpC t a) (fun _ ⟨h_,_,_⟩=>h_) (h:=?_);simp only[lyZ];refine tlZ 3 13 (w.heap.size+1) #[.int .i64 pe,.int .i64 pa,.bool pr] (fun _ ⟨_,h_,_⟩=>h_) (h:=?_);simp only[lyZ];refine tkZ 5 15 (h:=?_);simp only[lyZ];refine rdZ [1,7] ?_;refine acZ (some 11) (fun K hK=>?_) ?_
  ·go_simp
   obtain⟨s0,s1,s2⟩:=hHeld;refine(HSO.out _).mono ?_;rintro e_ q1 ⟨rfl,hb_⟩;go_wp2_with fail;refine hK.out _ _ ?_ (fun hHeld=>?_)
   ·exact⟨s0.u hb_,s1.u hb_,bu s2 hb_⟩
   clear hK K s0 s1 s2
   try simp only[lyZ]
   refine rdZ [4,7] (acZ (some 14) (fun K hK=>?za1) (acZ (some 7) (fun K hK=>?zb1) AllReadyH.nil))
   case' za1=>
    go_simp;obtain⟨s0,s1,s2⟩:=hHeld;refine(HEO.out _ s2).mono ?_;rintro e_ q2 ⟨rfl,hb2_⟩;go_wp2_with fail;refine hK.out _ _ ?_ (fun hHeld=>?_)
    ·exact⟨s0.u hb2_,s1.u hb2_,bu s2 hb2_⟩
    clear hK K s0 s1 s2
    try simp only[lyZ]
    refine tqZ 6 16 (fun w_ ⟨s0,s1,s2⟩=>HIJ.out) (h:=?_);simp only[lyZ];refine aoZ 7 (some 7) (fun K hK=>?_);go_simp;obtain⟨s0,s1,s2⟩:=hHeld;obtain⟨gs,hgs⟩:=geZ (q2.heap.size);have p0_gs:w.heap.size<gs:=by rw[<-hgs];exact s0.lt
    have p1_gs:w.heap.size+1<gs:=by rw[<-hgs];exact s1.lt
    have p2_gs:wa.heap.size<=gs:=by rw[<-hgs];exact s2.size
    rw[hgs];refine hK.out _ _ ?_ (fun hHeld=>?_)
    ·exact⟨s0.beside _,s1.beside _,qan s2 _⟩
    refine mr3 (fun W_=>(∃o_:Array Value,Has W_ (gs) 30 o_/\o_.size=2)) ⟨s0.beside _,s1.beside _,qan s2 _,⟨#[.int .i64 0,.bool false],(by rw[<-hgs];exact Has.made _ _ _),rfl⟩⟩ (fun h_=>?_);clear hHeld;have hHeld:=h_;clear h_;clear hK K hgs s0 s1 s2
    try simp only[lyZ]
   case' zb1=>
    go_simp;obtain⟨s0,s1,s2⟩:=hHeld;obtain⟨gs,hgs⟩:=geZ (q1.heap.size);have p0_gs:w.heap.size<gs:=by rw[<-hgs];exact s0.lt
    have p1_gs:w.heap.size+1<gs:=by rw[<-hgs];exact s1.lt
    have p2_gs:wa.heap.size<=gs:=by rw[<-hgs];exact s2.size
    rw[hgs];refine hK.out _ _ ?_ (fun hHeld=>?_)
    ·exact⟨s0.beside _,s1.beside _,qan s2 _⟩
    refine mr3 (fun W_=>(∃o_:Array Value,Has W_ (gs) 30 o_/\o_.size=2)) ⟨s0.beside _,s1.beside _,qan s2 _,⟨#[.int .i64 0,.bool false],(by rw[<-hgs];exact Has.made _ _ _),rfl⟩⟩ (fun h_=>?_);clear hHeld;have hHeld:=h_;clear h_;clear hK K hgs s0 s1 s2
    try simp only[lyZ]
    refine aoZ 4 (some 14) (fun K hK=>?_);go_simp;obtain⟨s0,s1,s2,s3⟩:=hHeld;refine(HEO.out _ s2).mono ?_;rintro e_ q2 ⟨rfl,hb2_⟩;go_wp2_with fail;refine hK.out _ _ ?_ (fun hHeld=>?_)
    ·exact⟨s0.u hb2_,s1.u hb2_,bu s2 hb2_,(let ⟨o_,h_,e_⟩:=s3;⟨o_,h_.u hb2_,e_⟩)⟩
    clear hK K s0 s1 s2 s3
    try simp only[lyZ]
    refine tqZ 6 16 (fun w_ ⟨s0,s1,s2,s3⟩=>HIJ.out) (h:=?_);simp only[lyZ]
   all_goals
    refine aoZ 8 none (fun K hK=>?_);rw[if_pos (by rfl)];obtain⟨s0,s1,s2,s3⟩:=hHeld;obtain⟨o_,h_,e_⟩:=s3;refine wp_store_row 30 _ _ rfl (gs) #[.int .i64 pe,.bool pr] (by rfl) (by rfl) 30 o_ h_.raw11 (by kernel_rfl) e_ (by kernel_rfl) ?_;refine hK.out _ _ ?_ (fun hHeld=>?_)
    ·exact⟨qad s0 (by omega) _,qad s1 (by omega) _,qab s2 (by omega) _,⟨_,qaa h_ _,rfl⟩⟩
    refine mr4 (fun W_=>(Has W_ (gs) 30 #[.int .i64 pe,.bool pr])) ⟨qad s0 (by omega) _,qad s1 (by omega) _,qab s2 (by omega) _,⟨_,qaa h_ _,rfl⟩,qaa h_ _⟩ (fun h_=>?_);clear hHeld;have hHeld:=h_;clear h_;clear hK K h_ e_ s0 s1 s2
    try simp only[Act.put]
    refine tkZ 9 8 (h:=?_);simp only[lyZ];refine dnZ ?_;go_wp2_with fail;go_meet
    exact⟨rfl,gs,by omega,rfl,hHeld.2.2.2.2,hHeld.2.2.1⟩
  refine acZ (some 7) (fun K hK=>?_) ?_
  ·go_simp
   obtain⟨s0,s1,s2⟩:=hHeld;obtain⟨gs,hgs⟩:=geZ (wa.heap.size);have p0_gs:w.heap.size<gs:=by rw[<-hgs];exact s0.lt
   have p1_gs:w.heap.size+1<gs:=by rw[<-hgs];exact s1.lt
   have p2_gs:wa.heap.size<=gs:=by rw[<-hgs];exact s2.size
   rw[hgs];refine hK.out _ _ ?_ (fun hHeld=>?_)
   ·exact⟨s0.beside _,s1.beside _,qan s2 _⟩
   refine mr3 (fun W_=>(∃o_:Array Value,Has W_ (gs) 30 o_/\o_.size=2)) ⟨s0.beside _,s1.beside _,qan s2 _,⟨#[.int .i64 0,.bool false],(by rw[<-hgs];exact Has.made _ _ _),rfl⟩⟩ (fun h_=>?_);clear hHeld;have hHeld:=h_;clear h_;clear hK K hgs s0 s1 s2
   try simp only[lyZ]
   refine aoZ 1 (some 11) (fun K hK=>?_);go_simp;obtain⟨s0,s1,s2,s3⟩:=hHeld;refine(HSO.out _).mono ?_;rintro e_ q1 ⟨rfl,hb_⟩;go_wp2_with fail;refine hK.out _ _ ?_ (fun hHeld=>?_)
   ·exact⟨s0.u hb_,s1.u hb_,bu s2 hb_,(let ⟨o_,h_,e_⟩:=s3;⟨o_,h_.u hb_,e_⟩)⟩
   clear hK K s0 s1 s2 s3
   try simp only[lyZ]
   refine aoZ 4 (some 14) (fun K hK=>?_);go_simp;obtain⟨s0,s1,s2,s3⟩:=hHeld;refine(HEO.out _ s2).mono ?_;rintro e_ q2 ⟨rfl,hb2_⟩;go_wp2_with fail;refine hK.out _ _ ?_ (fun hHeld=>?_)
   ·exact⟨s0.u hb2_,s1.u hb2_,bu s2 hb2_,(let ⟨o_,h_,e_⟩:=s3;⟨o_,h_.u hb2_,e_⟩)⟩
   clear hK K s0 s1 s2 s3
   try simp only[lyZ]
   refine tqZ 6 16 (fun w_ ⟨s0,s1,s2,s3⟩=>HIJ.out) (h:=?_);simp only[lyZ];refine aoZ 8 none (fun K hK=>?_);rw[if_pos (by rfl)];obtain⟨s0,s1,s2,s3⟩:=hHeld;obtain⟨o_,h_,e_⟩:=s3;refine wp_store_row 30 _ _ rfl (gs) #[.int .i64 pe,.bool pr] (by rfl) (by rfl) 30 o_ h_.raw11 (by kernel_rfl) e_ (by kernel_rfl) ?_;refine hK.out _ _ ?_ (fun hHeld=>?_)
   ·exact⟨qad s0 (by omega) _,qad s1 (by omega) _,qab s2 (by omega) _,⟨_,qaa h_ _,rfl⟩⟩
   refine mr4 (fun W_=>(Has W_ (gs) 30 #[.int .i64 pe,.bool pr])) ⟨qad s0 (by omega) _,qad s1 (by omega) _,qab s2 (by omega) _,⟨_,qaa h_ _,rfl⟩,qaa h_ _⟩ (fun h_=>?_);clear hHeld;have hHeld:=h_;clear h_;clear hK K h_ e_ s0 s1 s2
   try simp only[Act.put]
   refine tkZ 9 8 (h:=?_);simp only[lyZ];refine dnZ ?_;go_wp2_with fail;go_meet
   exact⟨rfl,gs,by omega,rfl,hHeld.2.2.2.2,hHeld.2.2.1⟩
  exact AllReadyH.nil
 obtain⟨rfl,gs,hgs_,rfl,hh_,hb_⟩:=hcut;obtain⟨u1,hu1⟩: ∃u1,u1=wc:=⟨_,rfl⟩
 subst hu1;have HH:=zq hh_;have HB:=zq hb_;have HGS:=zq (show wa.heap.size<=gs/\gs<u1.heap.size from⟨hgs_,hh_.lt⟩);clear hh_ hb_ hgs_;go_upto_region 2 with fail;go_upto_region 3 with(with_reducible refine ldZ 17 HH.out ?_)
 obtain⟨u2,hu2⟩:=geZ (u1.alloc (.cells #[.int .i64 pe,.bool pr] 30));rw[hu2];have hb2:Below u1.heap.size u1 u2:=by rw[<-hu2];exact bA
 have HO:=zq (show OwR stC 2 30 u1.heap.size u2 (some ⟨u1.heap.size,0,none⟩) 1 1 [⟨pe,pr⟩]from by rw[<-hu2];exact⟨World.ownsRow_lit (base:=u1.heap.size) (e:=30) (size:=2) u1 #[.int .i64 pe,.bool pr] 1 (Nat.le_refl _) (by unfold maxLen;omega) rfl,rfl⟩);have HH2:=uH HH hb2;have HB2:=tB HB hb2;have HUS:=zq hb2.size;clear hu2 hb2 HH HB;go_loopg [8,9] 41 (fun kk v8 v9 wl=> ∃(k j:Nat) (X:Option Addr) (c:Nat) (q:List St3) (s:St3) (rest:Int),42-k<=kk/\v9= .slice X k c/\v8= .int .i64 rest/\Hid (q.length+1=k)/\Hid (q++qaW t j s (rest-lenAt t s)=G/\sumT t q+rest=J)/\Hid (edgeB t s.edge=true/\ -1000000<=rest/\rest<=2000000000000)/\Hid (Has wl gs 30 #[.int .i64 s.edge,.bool s.rev])/\Hid (OwR stC 2 30 u1.heap.size wl X k c (q++[s]))/\Hid (Below wa.heap.size wa wl/\u1.heap.size<=wl.heap.size))
 case atStart=>exact⟨1,59,_,1,[],⟨pe,pr⟩,J,by omega,rfl,rfl,zq rfl,zq ⟨HST.out.1,by show 0+J=J;omega⟩,zq ⟨HEP.out,by have:=HJB.out;omega,HJB.out.2⟩,HH2,HO,zq ⟨HB2.out,HUS.out⟩⟩
 clear HO HB2 HH2;obtain⟨k,j,X,c,q,s,rest,hkk,rfl,rfl,HQL,HQ,HSB,HH,HO,HBU⟩:=hrel;have HB:=zq HBU.out.1;obtain⟨k1,hk1⟩: ∃k1,k1=gk:=⟨_,rfl⟩
 subst hk1;obtain⟨wv,hwv⟩: ∃wv,wv=wr:=⟨_,rfl⟩
 subst hwv;have hkG:k<=G.length:=by have h1_:=HQ.out.1;have h2_:=HQL.out;obtain⟨r_,hr_⟩:=gone_head t j s (rest-lenAt t s);rw[hr_]at h1_;rw[<-h1_];simp;omega
 have HK:=zq (show 1<=k/\k<=41/\42-k<=k1 from by have h1_:=HQL.out;have h2_:=HGL.out;omega);clear hkG hkk;have HLS:=zq (HLA.out s HSB.out.1);obtain⟨se,sr⟩:=s;dsimp only at HSB HH;have hx2:0<=se/\se<t.edges.length:=by have h_:=HSB.out.1;unfold edgeB at h_;simpa using h_
 obtain⟨e,hse⟩: ∃e:Nat,se=e:=⟨se.toNat,by omega⟩
 subst hse;have hel:e<t.edges.length:=by omega
 obtain⟨ln,hln⟩: ∃q,t.edges.getD e 0=q:=⟨_,rfl⟩
 have hlx:lenAt t ⟨(e:Int),sr⟩=ln:=by unfold lenAt;rw[<-hln];first|rfl|simp
 rw[hlx]at HLS HQ;have HLX:=zq hlx;obtain⟨be,oe,hpa_,ce⟩:=(HT.out wv HB.out).e.edge hel;rw[hln]at ce;have e0:wv.cell? ⟨w.heap.size,0,none⟩=some (.slice (some ⟨be,oe,none⟩) t.edges.length a.ce):=by have h_:=(H0.out wv HB.out).cell 0;rw[<-hpa_];exact h_
 have y2:(0:Int)<=e:=by omega
 have y3:(e:Int)<t.edges.length:=by omega
 have c0:wv.cell? ⟨gs,0,none⟩=some (.int .i64 (e:Int)):=HH.out.cell 0;clear hx2 hel hln hlx hpa_;by_cases z0:ln<rest;rotate_left
 ·have HF:=zq (show q++[⟨(e:Int),sr⟩]=G from by have h_:=HQ.out.1;rw[gone_end17 (by omega)]at h_;exact h_)
  go_wp2;go_ret
  have hl_:G.length=k:=by rw[<-HF.out];exact HO.out.2
  rw[hl_,<-HF.out];exact⟨_,c,rfl,HO.out.to_base (by have h1_:=HBZ.out;have h2_:=HGS.out;omega),HBWA.out.trans (HB.out.mono HBWA.out.size)⟩
 have HNX:=zq (gone_next17 (s:=⟨(e:Int),sr⟩) (k:=j) (left:=rest-ln) (pre:=q) HOK.out HGP.out HQ.out.1 (by rw[HLX.out];have h1_:=HQ.out.2;have h2_:=HST.out.2;have h3_:sumT t ([]:List St3)=0:=rfl;omega) (by omega));obtain⟨y,j2,hj2,hay,hg2,hs2⟩:=HNX.out;have HAY:=zq hay;obtain⟨l2,hl2⟩: ∃d,rest-ln=d:=⟨_,rfl⟩
 rw[hl2]at hg2 hs2;have HG2:=zq (show(q++[⟨(e:Int),sr⟩])++qaW t j2 y (l2-lenAt t y)=G/\sumT t (q++[⟨(e:Int),sr⟩])+l2=J from⟨hg2,by have h2_:=HST.out.2;have h3_:sumT t ([]:List St3)=0:=rfl;omega⟩);have hye:edgeB t y.edge=true:=(qbd.1 (by rw[hay];exact List.mem_cons_self ..)).2.1;have HYE:=zq hye;have HL2:=zq (show 0<l2/\l2<=2000000000000 from by have h1_:=HSB.out;have h2_:=HLS.out;omega);have hw1:wrap64 (rest-ln)=l2:=by rw[IntWalk.wrap64_in _ (by have h1_:=HL2.out;omega)];exact hl2
 have hw2:IntKind.i64.wrap (rest-ln)=l2:=by rw[IntKind.wrap_i64];have h1_:=HL2.out;omega
 clear hj2 hay hg2 hs2 hl2 hye HNX;go_upto_region 5 with fail;clear e0 ce z0 hw1 hw2 c0;obtain⟨ye,yr⟩:=y;dsimp only at HYE;go_wp2_with (first|(with_reducible refine ldZ 35 (H0.out wv HB.out) ?_)|(with_reducible refine ldZ 36 HH.out ?_));refine(qdf t a ⟨(e:Int),sr⟩ wv (HT.out wv HB.out) HLT.out).mono ?_;rw[HAY.out];rintro e_ w5 ⟨A5,c5,rfl,hs5,hb5⟩;obtain⟨b1,o1,rfl,d0,d1⟩:=hs5.step (j:=0) (x:=⟨ye,yr⟩) rfl;rw[Nat.zero_mul,Nat.add_zero]at d0 d1;dsimp only at d0 d1;have HH5:=uH HH hb5;have HO5:=zq (HO.out.under hb5);have HB5:=tB HB hb5;have HU5:=zq (Nat.le_trans HBU.out.2 hb5.size);clear hb5 hs5 HH HO HB;obtain⟨w6,hw6⟩:=geZ (w5.setRow gs #[.int .i64 ye,.bool yr]);have HH6:=zq (show Has w6 gs 30 #[.int .i64 ye,.bool yr]from by rw[<-hw6];exact qaa HH5.out _);have HO6:=zq (show OwR stC 2 30 u1.heap.size w6 X k c (q++[⟨(e:Int),sr⟩])from by rw[<-hw6];exact HO5.out.rowlow17 HGS.out.2 _);have HB6:=zq (show Below wa.heap.size wa w6 from by rw[<-hw6];exact qab (g:=gs) HB5.out HGS.out.1 _);have HU6:=zq (show u1.heap.size<=w6.heap.size from by rw[<-hw6];simpa using HU5.out);have HW6:=zq hw6;clear hw6;go_upto_region 6 with(with_reducible refine stZ #[.int .i64 ye,.bool yr] HH5.out ?_)
 rw[HW6.out];clear HW6 HH5 HO5 HB5 d0 d1;obtain⟨q2,hq2⟩:=geZ (q++[(⟨(e:Int),sr⟩:St3)]);rw[hq2]at HO6 HG2;have HQ2:=zq (show q2.length=k from by rw[<-hq2,List.length_append];exact HQL.out);clear hq2;skip;obtain⟨hN,hO,hC,h1,hBD⟩:=pushR (f:=stC) (k:=2) (e:=30) (w:=w6) 16 ⟨ye,yr⟩ #[.int .i64 ye,.bool yr] rfl rfl (qc0 _) HO6.out HU6.out (by have h1_:=HK.out;omega) (by omega);have HBW:=zq (show Below wa.heap.size wa (w6.alloc (.cells #[.int .i64 ye,.bool yr] 30))from HB6.out.alloc HB6.out.size _);have HLN:=zq HO6.out.2;go_wp2_with (first|(with_reducible refine ldZ 41 HH6.out ?_)|(with_reducible refine qao (o:=⟨some 43,_,_,_,_,_⟩) rfl (.tmp 40) (.tmp 42) 35 rfl u1.heap.size 30 (.agg #[.int .i64 0,.bool false]) 2 16 Tryz.underlying35 qa6 ?hz (by decide) X (k) c ((q2).flatMap stC) ?hs hO ⟨w6.heap.size,0,none⟩ 1 1 (stC ⟨ye,yr⟩) ?hx hN hC h1 hBD ?next))
 all_goals try rfl
 intro X3 c3 u3 ho hg;have HO3:=zq (OwR.snoc HLN.out ho.out);have HB3:=zq (qai HBW.out HBW.out.size hO.out (by have h1_:=HBU.out;have h2_:=HGS.out;omega) rfl hg.out);have HU3:=zq (show u1.heap.size<=u3.heap.size from Nat.le_trans (by simpa using Nat.le_succ_of_le HU6.out) hg.out.size);have HH3:=zq (show Has u3 gs 30 #[.int .i64 ye,.bool yr]from(HH6.out.beside _).grow hg.out (fun e_=>by have:=((hO.out).lt gs e_.symm).1;have h2_:=HGS.out;omega));clear ho hg hN hO hC h1 hBD HO6 HB6 HH6 HBW HLN HBU HU6;go_wp2;go_roundg (k1-1)
 case measure=>have h1_:=HK.out;omega
 case rel=>exact⟨k+1,j2,X3,c3,q2,⟨ye,yr⟩,l2,by have h1_:=HK.out;omega,rfl,rfl,zq (by rw[HQ2.out]),HG2,zq ⟨HYE.out,by have:=HL2.out;omega,HL2.out.2⟩,HH3,HO3,zq ⟨HB3.out,HU3.out⟩⟩
theorem opn_may (t:Tp3)(a:TpA)(m:Ma3)(b:MaA)(w:World)(ht:TopR w t a)(hl:qaH t=true)(hcj:t.joints.length<=a.cj)(hm:MaR w m b)(hn:m.path.length<=100)(hk:m.sects.length<=100):Calls Tryz.prog 26 #[.agg (tpC t a),.agg (maC m b)] w fun r w'=>r= .returned (.bool (mayM t m))/\Below w.heap.size w w':=by
 obtain⟨mr,mv,mp,ms,mg⟩:=m;obtain⟨AP,PC,AQ,CS⟩:=b;have hmP:=hm.path;have hmS:=hm.sects;have hcP:=hm.capP;have hcS:=hm.capS;have htop:=hm.top;unfold maC;dsimp only at hmP hmS hcP hcS htop hn hk⊢;have HTOP:=zq (show qbt 0 ms<=9223372036854775807 from last_top17 (by decide) htop);clear htop;have HEM:=zq (fun(W:World) (hs_:SlO scC17 2 W AQ ms.length CS ms) (h1_:1<=ms.length)=>opend_any ⟨mr,mv,mp,ms,mg⟩ ⟨AP,PC,AQ,CS⟩ W hs_ h1_ (by show ms.length<=1048576;omega));unfold maC at HEM;dsimp only at HEM;obtain⟨pn,hpn⟩: ∃n,mp.length=n:=⟨_,rfl⟩
 obtain⟨sn,hsn⟩: ∃n,ms.length=n:=⟨_,rfl⟩
 rw[hpn]at hmP hcP hn HEM⊢;rw[hsn]at hmS hcS hk HEM⊢;have HPN:=zq hpn;have HSN:=zq hsn;have HPC:=zq hcP;have HSC:=zq hcS;have HNK:=zq (show pn<=100/\sn<=100 from⟨hn,hk⟩);clear hpn hsn hcP hcS hn hk hm;obtain⟨wa,hwa,hbwa,HWA,HBWA,h0,h1⟩:=bx2Z w 27 (tpC t a) 38 #[.int .i64 mr,.bool mv,.slice AP pn PC,.slice AQ sn CS,.int .i64 mg];have HT:=zq (fun W (hW:Below wa.heap.size wa W)=>(ht.under hbwa).under hW);have HLT:=zq hl;have HCJ:=zq hcj;have H0:=zH h0;have H1:=zH h1;have HP:=zq (fun W (hW:Below wa.heap.size wa W)=>(hmP.under hbwa).under hW);have HS:=zq (fun W (hW:Below wa.heap.size wa W)=>(hmS.under hbwa).under hW);obtain⟨R,hR⟩:=geZ (mayM t (⟨mr,mv,mp,ms,mg⟩:Ma3));have HR:=zq hR;rw[hR];obtain⟨x,e,hloc⟩: ∃x e,locE t mr mv 0=(x,e):=⟨_,_,rfl⟩
 have HLOC:=zq hloc;have HC:=zq (qci t a mr mv 0 wa (ht.under hbwa) hl hcj);rw[hloc]at HC;have m0:wa.cell? ⟨w.heap.size+1,0,none⟩=some (.int .i64 mr):=h1.cell 0;have m1:wa.cell? ⟨w.heap.size+1,1,none⟩=some (.bool mv):=h1.cell 1;have HSO:=zq (fun W=>qcC x W);have HEO:=zq (fun W (hW:Below wa.heap.size wa W)=>qdc t a x W ((ht.under hbwa).under hW) hl hcj);clear hwa hbwa h0 h1 ht hl hcj hmP hmS hR hloc;obtain⟨pe,pa,pr⟩:=x;unfold psA stA13 stepP at HSO;dsimp only at HSO;unfold psA at HC HEO;dsimp only at HC HEO;go_enter Tryz.func26,Tryz.ntmps26;go_upto_region 1 with fail;rw[HWA.out];clear HWA;go_wp2_with (with_reducible refine ldZ 9 (H0.out wa (Below.refl _ _)) ?_);refine HC.out.mono ?_;rintro e_ w1 ⟨rfl,hb1⟩;have HB1:=zq hb1;clear hb1 HC m0 m1;go_upto_region 2 with fail;obtain⟨wb,hwb⟩:=geZ (w1.alloc (.cells #[.int .i64 pe,.int .i64 pa,.bool pr] 51));rw[hwb];have HBB:=zq (show Below wa.heap.size wa wb from by rw[<-hwb];exact HB1.out.alloc HB1.out.size _);have hH:Has wb w1.heap.size 51 #[.int .i64 pe,.int .i64 pa,.bool pr]:=by rw[<-hwb];exact Has.made _ _ _
 obtain⟨gP,hgP⟩: ∃g,w1.heap.size=g:=⟨_,rfl⟩
 rw[hgP]at hH;simp only[hgP];have HH:=zH hH;have HX:=zq (fun W (hW:Below wb.heap.size wb W)=>HBB.out.trans (hW.mono HBB.out.size));clear hwb hH hgP HB1;by_cases z0:e=0;rotate_left
 ·have q0:(e !=0)=true:=by simp[z0]
  obtain rfl:R=false:=by rw[<-HR.out];exact may_no17 (by show(locE t mr mv 0).2≠0;rw[HLOC.out];exact z0)
  clear z0;go_quiet (fail);go_wp2;go_ret
  exact⟨rfl,qac (HBWA.out.trans (HBB.out.mono HBWA.out.size)) _⟩
 subst z0;have q0:((0:Int) !=0)=false:=rfl;have HMO:=zq ((may_own17 (t:=t) (m:=(⟨mr,mv,mp,ms,mg⟩:Ma3)) HLOC.out).symm.trans HR.out);have HLP:=zq (qcY HLOC.out);unfold stepP at HMO HEO;dsimp only at HMO HEO;obtain⟨pk,hpk⟩: ∃b,qdH t mp=b:=⟨_,rfl⟩
 rw[hpk]at HMO;have HPK:=zq hpk;clear hpk
 cases pk with
 |false=>
  obtain rfl:R=false:=by rw[<-HMO.out];rfl
  refine wp_region_held_drew (S:=(fun W_=>(Has W_ (w.heap.size) 27 (tpC t a))/\(Has W_ (w.heap.size+1) 38 #[.int .i64 mr,.bool mv,.slice AP pn PC,.slice AQ sn CS,.int .i64 mg])/\(Has W_ (gP) 51 #[.int .i64 pe,.int .i64 pa,.bool pr])/\(Below wb.heap.size wb W_))) (by kernel_rfl) ?_ (fun hHeld=>?_)
  ·exact⟨(H0.out _ HBB.out).draw,(H1.out _ HBB.out).draw,(HH.out _ (Below.refl _ _)).draw,qaf (Below.refl _ _)⟩
  refine tkZ 0 17 (h:=?_);simp only[lyZ];refine tkZ 1 18 (h:=?_);simp only[lyZ];refine tkZ 2 19 (h:=?_);simp only[lyZ];refine tlZ 3 20 w.heap.size (tpC t a) (fun _ ⟨h_,_,_,_⟩=>h_) (h:=?_);simp only[lyZ];refine tkZ 4 21 (h:=?_);simp only[lyZ];refine tqZ 5 22 (fun w_ ⟨s0,s1,s2,s3⟩=>(show w_.cell? ⟨w.heap.size+1,2,none⟩=some (.slice AP pn PC:Value)from s1.cell 2)) (h:=?_);simp only[lyZ];refine aoZ 6 (some 23) (fun K hK=>?_);go_simp;obtain⟨s0,s1,s2,s3⟩:=hHeld;refine(qdd t a mp AP pn PC _ (HT.out _ (HX.out _ s3)) HLT.out (HP.out _ (HX.out _ s3)) (by have:=HNK.out;omega) HPC.out).mono ?_;rw[HPK.out];rintro e_ q1 ⟨rfl,hb_⟩;go_wp2_with fail;refine hK.out _ _ ?_ (fun hHeld=>?_)
  ·exact⟨s0.u hb_,s1.u hb_,s2.u hb_,bu s3 hb_⟩
  clear hK K s0 s1 s2 s3
  try simp only[lyZ]
  refine tkZ 7 24 (h:=?_);simp only[lyZ];refine tkZ 8 25 (h:=?_);simp only[lyZ];refine tkZ 9 26 (h:=?_);simp only[lyZ];refine skZ 10 27 (h:=?_);simp only[lyZ];refine skZ 11 28 (h:=?_);simp only[lyZ];refine skZ 12 29 (h:=?_);simp only[lyZ];refine skZ 13 30 (h:=?_);simp only[lyZ];refine skZ 14 31 (h:=?_);simp only[lyZ];refine skZ 15 32 (h:=?_);simp only[lyZ];refine skZ 16 33 (h:=?_);simp only[lyZ];refine tkZ 17 34 (h:=?_);simp only[lyZ];refine tkZ 18 35 (h:=?_);simp only[lyZ];refine skZ 19 36 (h:=?_);simp only[lyZ];refine skZ 20 37 (h:=?_);simp only[lyZ];refine skZ 21 38 (h:=?_);simp only[lyZ];refine skZ 22 39 (h:=?_);simp only[lyZ];refine tkZ 23 40 (h:=?_);simp only[lyZ];refine dnZ ?_;have HBZ:=zq (HBWA.out.trans ((HX.out _ hHeld.2.2.2).mono HBWA.out.size));clear hHeld;go_wp2;go_ret
  exact⟨rfl,HBZ.out⟩
 |true=>
  have HLE:=zq (pathOk_lp17 HPK.out);have hlo:=qdV HLE.out.1;have hp1:1<=pn:=by rw[<-HPN.out];exact List.length_pos_iff.2 hlo.1
  obtain⟨y,hy⟩:=glZ mp (0) (by rw[HPN.out];omega);rw[first_at17 hy]at HMO;obtain⟨bp,op_,rfl,d0,d1⟩:=(HP.out wb HBB.out).step hy;rw[Nat.zero_mul,Nat.add_zero]at d0 d1;have HYC:=zq (fun W (hW:Below wb.heap.size wb W)=>And.intro ((hW.cell (qah d0)).trans d0) ((hW.cell (qah d1)).trans d1));have HNQ:=zq (fun W=>neq_st13 y ⟨pe,pr⟩ W);obtain⟨fb,hfb⟩: ∃b,eqS y ⟨pe,pr⟩=b:=⟨_,rfl⟩
  rw[hfb]at HMO HNQ;have HYX:=zq hy;have HFB:=zq hfb;obtain⟨ye,yr⟩:=y;unfold stA13 at HNQ;dsimp only at HYC HNQ;have HEB:=zq (show∀s∈mp,edgeB t s.edge=true from hlo.2.2.1);have x1:(0:Int)<pn:=by omega
  have x2:0<pn:=by omega
  clear hlo hp1 hy d0 d1 hfb
  cases fb with
  |false=>
   obtain rfl:R=false:=by rw[<-HMO.out];rfl
   refine wp_region_held_drew (S:=(fun W_=>(Has W_ (w.heap.size) 27 (tpC t a))/\(Has W_ (w.heap.size+1) 38 #[.int .i64 mr,.bool mv,.slice (some ⟨bp,op_,none⟩) pn PC,.slice AQ sn CS,.int .i64 mg])/\(Has W_ (gP) 51 #[.int .i64 pe,.int .i64 pa,.bool pr])/\(Below wb.heap.size wb W_))) (by kernel_rfl) ?_ (fun hHeld=>?_)
   ·exact⟨(H0.out _ HBB.out).draw,(H1.out _ HBB.out).draw,(HH.out _ (Below.refl _ _)).draw,qaf (Below.refl _ _)⟩
   refine tkZ 0 17 (h:=?_);simp only[lyZ];refine tkZ 1 18 (h:=?_);simp only[lyZ];refine tkZ 2 19 (h:=?_);simp only[lyZ];refine tlZ 3 20 w.heap.size (tpC t a) (fun _ ⟨h_,_,_,_⟩=>h_) (h:=?_);simp only[lyZ];refine tkZ 4 21 (h:=?_);simp only[lyZ];refine tqZ 5 22 (fun w_ ⟨s0,s1,s2,s3⟩=>(show w_.cell? ⟨w.heap.size+1,2,none⟩=some (.slice (some ⟨bp,op_,none⟩) pn PC:Value)from s1.cell 2)) (h:=?_);simp only[lyZ];refine aoZ 6 (some 23) (fun K hK=>?_);go_simp;obtain⟨s0,s1,s2,s3⟩:=hHeld;refine(qdd t a mp (some ⟨bp,op_,none⟩) pn PC _ (HT.out _ (HX.out _ s3)) HLT.out (HP.out _ (HX.out _ s3)) (by have:=HNK.out;omega) HPC.out).mono ?_;rw[HPK.out];rintro e_ q1 ⟨rfl,hb_⟩;go_wp2_with fail;refine hK.out _ _ ?_ (fun hHeld=>?_)
   ·exact⟨s0.u hb_,s1.u hb_,s2.u hb_,bu s3 hb_⟩
   clear hK K s0 s1 s2 s3
   try simp only[lyZ]
   refine tkZ 7 24 (h:=?_);simp only[lyZ];refine tkZ 8 25 (h:=?_);simp only[lyZ];refine tkZ 9 26 (h:=?_);simp only[lyZ];refine tkZ 10 27 (h:=?_);simp only[lyZ];refine tqZ 11 28 (fun w_ ⟨s0,s1,s2,s3⟩=>(show w_.cell? ⟨w.heap.size+1,2,none⟩=some (.slice (some ⟨bp,op_,none⟩) pn PC:Value)from s1.cell 2)) (h:=?_);simp only[lyZ];refine tkZ 12 29 (h:=?_);simp only[lyZ];refine tqZ 13 30 (fun w_ ⟨s0,s1,s2,s3⟩=>And.intro ((HYC.out w_ s3).1) ((HYC.out w_ s3).2)) (h:=?_);simp only[lyZ];refine tlZ 14 31 gP #[.int .i64 pe,.int .i64 pa,.bool pr] (fun _ ⟨_,_,h_,_⟩=>h_) (h:=?_);simp only[lyZ];refine aoZ 15 (some 32) (fun K hK=>?_);go_simp;obtain⟨s0,s1,s2,s3⟩:=hHeld;refine(HSO.out _).mono ?_;rintro e_ q2 ⟨rfl,hb2_⟩;go_wp2_with fail;refine hK.out _ _ ?_ (fun hHeld=>?_)
   ·exact⟨s0.u hb2_,s1.u hb2_,s2.u hb2_,bu s3 hb2_⟩
   clear hK K s0 s1 s2 s3
   try simp only[lyZ]
   refine wpAnyH_take (i:=16) (oi:=⟨some 33,_,_,_,_,_⟩) (v:=_) rfl (by kernel_rfl) (by kernel_rfl) (by kernel_rfl) (fun _ _ _ h=>h) (qbw .neq 30 _ _ _ rfl _ _ rfl rfl qcD _ HNQ.out (by rfl)) (by assumption) ?_;simp only[lyZ];refine tkZ 17 34 (h:=?_);simp only[lyZ];refine tkZ 18 35 (h:=?_);simp only[lyZ];refine skZ 19 36 (h:=?_);simp only[lyZ];refine skZ 20 37 (h:=?_);simp only[lyZ];refine skZ 21 38 (h:=?_);simp only[lyZ];refine skZ 22 39 (h:=?_);simp only[lyZ];refine tkZ 23 40 (h:=?_);simp only[lyZ];refine dnZ ?_;have HBZ:=zq (HBWA.out.trans ((HX.out _ hHeld.2.2.2).mono HBWA.out.size));clear hHeld;go_wp2;go_ret
   exact⟨rfl,HBZ.out⟩
  |true=>
  obtain⟨sb,hsb⟩: ∃b,qdB ms=b:=⟨_,rfl⟩
  rw[hsb]at HMO;have HSB:=zq hsb;clear hsb;refine wp_region_held_drew (S:=(fun W_=>(Has W_ (w.heap.size) 27 (tpC t a))/\(Has W_ (w.heap.size+1) 38 #[.int .i64 mr,.bool mv,.slice (some ⟨bp,op_,none⟩) pn PC,.slice AQ sn CS,.int .i64 mg])/\(Has W_ (gP) 51 #[.int .i64 pe,.int .i64 pa,.bool pr])/\(Below wb.heap.size wb W_))) (by kernel_rfl) ?_ (fun hHeld=>?_)
  ·exact⟨(H0.out _ HBB.out).draw,(H1.out _ HBB.out).draw,(HH.out _ (Below.refl _ _)).draw,qaf (Below.refl _ _)⟩
  refine tkZ 0 17 (h:=?_);simp only[lyZ];refine tkZ 1 18 (h:=?_);simp only[lyZ];refine tkZ 2 19 (h:=?_);simp only[lyZ];refine tlZ 3 20 w.heap.size (tpC t a) (fun _ ⟨h_,_,_,_⟩=>h_) (h:=?_);simp only[lyZ];refine tkZ 4 21 (h:=?_);simp only[lyZ];refine tqZ 5 22 (fun w_ ⟨s0,s1,s2,s3⟩=>(show w_.cell? ⟨w.heap.size+1,2,none⟩=some (.slice (some ⟨bp,op_,none⟩) pn PC:Value)from s1.cell 2)) (h:=?_);simp only[lyZ];refine aoZ 6 (some 23) (fun K hK=>?_);go_simp;obtain⟨s0,s1,s2,s3⟩:=hHeld;refine(qdd t a mp (some ⟨bp,op_,none⟩) pn PC _ (HT.out _ (HX.out _ s3)) HLT.out (HP.out _ (HX.out _ s3)) (by have:=HNK.out;omega) HPC.out).mono ?_;rw[HPK.out];rintro e_ q1 ⟨rfl,hb_⟩;go_wp2_with fail;refine hK.out _ _ ?_ (fun hHeld=>?_)
  ·exact⟨s0.u hb_,s1.u hb_,s2.u hb_,bu s3 hb_⟩
  clear hK K s0 s1 s2 s3
  try simp only[lyZ]
  refine tkZ 7 24 (h:=?_);simp only[lyZ];refine tkZ 8 25 (h:=?_);simp only[lyZ];refine tkZ 9 26 (h:=?_);simp only[lyZ];refine tkZ 10 27 (h:=?_);simp only[lyZ];refine tqZ 11 28 (fun w_ ⟨s0,s1,s2,s3⟩=>(show w_.cell? ⟨w.heap.size+1,2,none⟩=some (.slice (some ⟨bp,op_,none⟩) pn PC:Value)from s1.cell 2)) (h:=?_);simp only[lyZ];refine tkZ 12 29 (h:=?_);simp only[lyZ];refine tqZ 13 30 (fun w_ ⟨s0,s1,s2,s3⟩=>And.intro ((HYC.out w_ s3).1) ((HYC.out w_ s3).2)) (h:=?_);simp only[lyZ];refine tlZ 14 31 gP #[.int .i64 pe,.int .i64 pa,.bool pr] (fun _ ⟨_,_,h_,_⟩=>h_) (h:=?_);simp only[lyZ];refine aoZ 15 (some 32) (fun K hK=>?_);go_simp;obtain⟨s0,s1,s2,s3⟩:=hHeld;refine(HSO.out _).mono ?_;rintro e_ q2 ⟨rfl,hb2_⟩;go_wp2_with fail;refine hK.out _ _ ?_ (fun hHeld=>?_)
  ·exact⟨s0.u hb2_,s1.u hb2_,s2.u hb2_,bu s3 hb2_⟩
  clear hK K s0 s1 s2 s3
  try simp only[lyZ]
  refine wpAnyH_take (i:=16) (oi:=⟨some 33,_,_,_,_,_⟩) (v:=_) rfl (by kernel_rfl) (by kernel_rfl) (by kernel_rfl) (fun _ _ _ h=>h) (qbw .neq 30 _ _ _ rfl _ _ rfl rfl qcD _ HNQ.out (by rfl)) (by assumption) ?_;simp only[lyZ];refine tkZ 17 34 (h:=?_);simp only[lyZ];refine tkZ 18 35 (h:=?_);simp only[lyZ];refine tkZ 19 36 (h:=?_);simp only[lyZ];refine tqZ 20 37 (fun w_ ⟨s0,s1,s2,s3⟩=>(show w_.cell? ⟨w.heap.size+1,3,none⟩=some (.slice AQ sn CS:Value)from s1.cell 3)) (h:=?_);simp only[lyZ];refine aoZ 21 (some 38) (fun K hK=>?_);go_simp;obtain⟨s0,s1,s2,s3⟩:=hHeld;refine(opsects_any ms AQ sn CS _ (HS.out _ (HX.out _ s3)) (by have:=HNK.out;omega)).mono ?_;rw[HSB.out];rintro e_ q3 ⟨rfl,hb3_⟩;go_wp2_with fail;refine hK.out _ _ ?_ (fun hHeld=>?_)
  ·exact⟨s0.u hb3_,s1.u hb3_,s2.u hb3_,bu s3 hb3_⟩
  clear hK K s0 s1 s2 s3
  try simp only[lyZ]
  refine tkZ 22 39 (h:=?_);simp only[lyZ];refine tkZ 23 40 (h:=?_);simp only[lyZ];refine dnZ ?_;obtain⟨w3,hw3⟩: ∃w,w=q3:=⟨_,rfl⟩
  subst hw3;have HB3:=zq hHeld.2.2.2;clear hHeld HNQ HYC HSO x1 x2
  cases sb with
  |false=>
   obtain rfl:R=false:=by rw[<-HMO.out];rfl
   go_wp2;go_ret
   exact⟨rfl,HBWA.out.trans ((HX.out _ HB3.out).mono HBWA.out.size)⟩
  |true=>
  have HSL:=zq (sects_lp17 HSB.out);have HOK:=zq (qaD HLP.out.1).1;have HIN:=zq (qb3 HOK.out (qaO.1 HLP.out.2.2.1).2);have HEN:=zq (qc9 HLP.out.2.2.1);have HLI:=zq (qaT HOK.out (s:=stepP ⟨pe,pa,pr⟩) (qbh.1 (qaO.1 HLP.out.2.2.1).2).1);unfold stepP at HEN;dsimp only at HEN;rw[HEN.out]at HEO;have HSM:=zq (qck HOK.out HEB.out);obtain⟨I,hI⟩:=geZ (intoP t ⟨pe,pa,pr⟩);rw[hI]at HIN HEO HMO;obtain⟨S,hS⟩:=geZ (sumT t mp);rw[hS]at HSM HMO;have HSE:=zq hS;obtain⟨E,hE⟩:=geZ (endM (⟨mr,mv,mp,ms,mg⟩:Ma3));have HEL:=zq (show qbt 0 ms=E from hE);rw[hE]at HEM HMO;obtain⟨D,hD⟩:=geZ (S-I);have hy0:mp[0]?=some ⟨pe,pr⟩:=by rw[HYX.out,(qaX _ _).1 HFB.out]
  have hle:=head_le17 (t:=t) hy0 (fun s hs=>qaT HOK.out (HEB.out s hs));rw[HSE.out]at hle;have hin:=HIN.out;have HDB:=zq (show 0<=D/\D<=24000000 from by have h1_:=HSM.out;have h4_:=HLE.out.2;have h5_:lenAt t (stepP ⟨pe,pa,pr⟩)=lenAt t ⟨pe,pr⟩:=rfl;omega);clear hy0 hle hin;have hw1:IntKind.i64.wrap (S-I)=D:=by rw[IntKind.wrap_i64];have h1_:=HDB.out;omega
  have HW1:=zq hw1;rw[hD]at HMO;clear hI hS hE hD hw1 HSB HPK;go_upto_region 4 with fail;refine wp_region_held_drew (S:=(fun W_=>(Has W_ (w.heap.size) 27 (tpC t a))/\(Has W_ (w.heap.size+1) 38 #[.int .i64 mr,.bool mv,.slice (some ⟨bp,op_,none⟩) pn PC,.slice AQ sn CS,.int .i64 mg])/\(Has W_ (gP) 51 #[.int .i64 pe,.int .i64 pa,.bool pr])/\(Below w3.heap.size w3 W_))) (by kernel_rfl) ?_ (fun hHeld=>?_)
  ·exact⟨(H0.out _ (HX.out _ HB3.out)).draw,(H1.out _ (HX.out _ HB3.out)).draw,(HH.out _ HB3.out).draw,qaf (Below.refl _ _)⟩
  refine tlZ 0 41 w.heap.size (tpC t a) (fun _ ⟨h_,_,_,_⟩=>h_) (h:=?_);simp only[lyZ];refine tkZ 1 42 (h:=?_);simp only[lyZ];refine tqZ 2 43 (fun w_ ⟨s0,s1,s2,s3⟩=>(show w_.cell? ⟨w.heap.size+1,2,none⟩=some (.slice (some ⟨bp,op_,none⟩) pn PC:Value)from s1.cell 2)) (h:=?_);simp only[lyZ];refine tlZ 4 45 w.heap.size (tpC t a) (fun _ ⟨h_,_,_,_⟩=>h_) (h:=?_);simp only[lyZ];refine tlZ 5 46 gP #[.int .i64 pe,.int .i64 pa,.bool pr] (fun _ ⟨_,_,h_,_⟩=>h_) (h:=?_);simp only[lyZ];refine aoZ 3 (some 44) (fun K hK=>?_);go_simp;obtain⟨s0,s1,s2,s3⟩:=hHeld;refine(qfy t a mp (some ⟨bp,op_,none⟩) pn PC _ (HT.out _ (HX.out _ (bu HB3.out s3))) (HP.out _ (HX.out _ (bu HB3.out s3))) (by have:=HNK.out;omega) HOK.out HEB.out).mono ?_;rw[HSE.out];rintro e_ q4 ⟨rfl,hb4_⟩;go_wp2_with fail;refine hK.out _ _ ?_ (fun hHeld=>?_)
  ·exact⟨s0.u hb4_,s1.u hb4_,s2.u hb4_,bu s3 hb4_⟩
  clear hK K s0 s1 s2 s3
  try simp only[lyZ]
  refine aoZ 6 (some 47) (fun K hK=>?_);go_simp;obtain⟨s0,s1,s2,s3⟩:=hHeld;refine(HEO.out _ (HX.out _ (bu HB3.out s3))).mono ?_;rintro e_ q5 ⟨rfl,hb5_⟩;go_wp2_with fail;refine hK.out _ _ ?_ (fun hHeld=>?_)
  ·exact⟨s0.u hb5_,s1.u hb5_,s2.u hb5_,bu s3 hb5_⟩
  clear hK K s0 s1 s2 s3
  try simp only[lyZ]
  refine tqZ 7 48 (fun w_ ⟨s0,s1,s2,s3⟩=>HW1.out) (h:=?_);simp only[lyZ];refine tkZ 8 7 (h:=?_);simp only[lyZ];refine dnZ ?_;obtain⟨w4,hw4⟩: ∃w,w=q5:=⟨_,rfl⟩
  subst hw4;have HB4:=zq (HB3.out.trans (hHeld.2.2.2.mono HB3.out.size));clear hHeld HW1;by_cases z1:0<=mg;rotate_left
  ·obtain rfl:R=false:=by rw[<-HMO.out,decide_eq_false z1];simp
   have z2:decide (0<=mg)=false:=decide_eq_false z1;have z3:decide (mg≥0)=false:=decide_eq_false z1;have m4:w4.cell? ⟨w.heap.size+1,4,none⟩=some (.int .i64 mg):=(H1.out w4 (HX.out _ HB4.out)).cell 4;go_upto_region 5 with fail;go_quiet (fail);go_wp2;go_ret
   exact⟨rfl,qac (HBWA.out.trans ((HX.out _ HB4.out).mono HBWA.out.size)) _⟩
  have z2:decide (0<=mg)=true:=decide_eq_true z1;have z3:decide (mg≥0)=true:=decide_eq_true z1;obtain⟨F,hF⟩:=geZ (D-E);have HEH:=zq (show 0<=E from by rw[<-HEL.out];exact HSL.out.1);skip;have hwf:IntKind.i64.wrap (D-E)=F:=by rw[IntKind.wrap_i64];have h1_:=HDB.out;have h2_:=HEH.out;have h3_:=HTOP.out;have h4_:=HEL.out;omega
  have HWF:=zq hwf;clear hwf;have hqe:decide (mg<=F)=R:=by rw[<-HMO.out,hF,z2];simp
  have HQE:=zq hqe;clear hqe HMO hF;go_upto_region 5 with fail;refine wp_region_held_drew (S:=(fun W_=>(Has W_ (w.heap.size) 27 (tpC t a))/\(Has W_ (w.heap.size+1) 38 #[.int .i64 mr,.bool mv,.slice (some ⟨bp,op_,none⟩) pn PC,.slice AQ sn CS,.int .i64 mg])/\(Below w4.heap.size w4 W_))) (by kernel_rfl) ?_ (fun hHeld=>?_)
  ·exact⟨(H0.out _ (HX.out _ HB4.out)).draw,(H1.out _ (HX.out _ HB4.out)).draw,qaf (Below.refl _ _)⟩
  refine tkZ 0 49 (h:=?_);simp only[lyZ];refine tqZ 1 50 (fun w_ ⟨s0,s1,s2⟩=>(show w_.cell? ⟨w.heap.size+1,4,none⟩=some (.int .i64 mg:Value)from s1.cell 4)) (h:=?_);simp only[lyZ];refine tkZ 2 51 (h:=?_);simp only[lyZ];refine tkZ 3 52 (h:=?_);simp only[lyZ];refine tkZ 4 53 (h:=?_);simp only[lyZ];refine tqZ 5 54 (fun w_ ⟨s0,s1,s2⟩=>(show w_.cell? ⟨w.heap.size+1,4,none⟩=some (.int .i64 mg:Value)from s1.cell 4)) (h:=?_);simp only[lyZ];refine tkZ 6 55 (h:=?_);simp only[lyZ];refine tlZ 7 56 (w.heap.size+1) #[.int .i64 mr,.bool mv,.slice (some ⟨bp,op_,none⟩) pn PC,.slice AQ sn CS,.int .i64 mg] (fun _ ⟨_,h_,_⟩=>h_) (h:=?_);simp only[lyZ];refine aoZ 8 (some 57) (fun K hK=>?_);go_simp;obtain⟨s0,s1,s2⟩:=hHeld;refine(HEM.out _ (HS.out _ (HX.out _ (bu HB4.out s2))) (by have h1_:=HSL.out.2.1;have h2_:=HSN.out;omega)).mono ?_;rintro e_ q6 ⟨rfl,hb6_⟩;go_wp2_with fail;refine hK.out _ _ ?_ (fun hHeld=>?_)
  ·exact⟨s0.u hb6_,s1.u hb6_,bu s2 hb6_⟩
  clear hK K s0 s1 s2
  try simp only[lyZ]
  refine tqZ 9 58 (fun w_ ⟨s0,s1,s2⟩=>HWF.out) (h:=?_);simp only[lyZ];refine tkZ 10 59 (h:=?_);simp only[lyZ];refine tkZ 11 60 (h:=?_);simp only[lyZ];refine tkZ 12 4 (h:=?_);simp only[lyZ];refine dnZ ?_;have HBZ:=zq (HBWA.out.trans ((HX.out _ (HB4.out.trans (hHeld.2.2.mono HB4.out.size))).mono HBWA.out.size));clear hHeld;go_wp2;go_ret
  exact⟨by show Ending.returned (.bool (decide (mg<=F)))=_;rw[HQE.out],HBZ.out⟩
theorem opn_stretch (t:Tp3)(a:TpA)(p:Ps3)(n:Int)(w:World)(ht:TopR w t a)(hl:qaH t=true)(hcj:t.joints.length<=a.cj):Calls Tryz.prog 20 #[.agg (tpC t a),.agg (psA p),.int .i64 n] w fun r w'=> ∃X x,r= .returned (.tuple #[.slice X (qaM t p n).1.length x,.int .i64 (qaM t p n).2])/\SlO snC 3 w' X (qaM t p n).1.length x (qaM t p n).1/\(qaM t p n).1.length<=x/\Below w.heap.size w w':=by
 obtain⟨pe,pa,pr⟩:=p;have HWK:=zq (fun W (hW:Below w.heap.size w W)=>opl_walk0 t a ⟨pe,pa,pr⟩ n W (ht.under hW) hl hcj);have HEO:=zq (fun W (hW:Below w.heap.size w W)=>qdc t a ⟨pe,pa,pr⟩ W (ht.under hW) hl hcj);have HWD:=zq (fun W (hW:Below w.heap.size w W) x h=>qeO t a ⟨pe,pa,pr⟩ x n W (ht.under hW) hl hcj h);unfold psA at HWK HEO HWD⊢;dsimp only at HWK HEO HWD⊢;obtain⟨wa,hwa,hbwa,HWA,HBWA,h0,h1⟩:=bx2Z w 27 (tpC t a) 51 #[.int .i64 pe,.int .i64 pa,.bool pr];have HT:=zq (fun W (hW:Below wa.heap.size wa W)=>(ht.under hbwa).under hW);have HLT:=zq hl;have HCJ:=zq hcj;have H0:=zH h0;have H1:=zH h1;obtain⟨px,ex,hw⟩: ∃x e,walkE t ⟨pe,pa,pr⟩ n=(x,e):=⟨_,_,rfl⟩
 rw[hw]at HWK;have HW:=zq hw;obtain⟨XL,XE,hX⟩: ∃L e,qaM t ⟨pe,pa,pr⟩ n=(L,e):=⟨_,_,rfl⟩
 have HX:=zq hX;rw[hX];dsimp only;clear hwa hbwa h0 h1 ht hl hcj hw hX;obtain⟨xe,xa,xr⟩:=px;dsimp only at HWK;go_enter Tryz.func20,Tryz.ntmps20;go_upto_region 1 with fail;rw[HWA.out];clear HWA;go_wp2_with (first|(with_reducible refine ldZ 12 (H0.out wa (Below.refl _ _)) ?_)|(with_reducible refine ldZ 13 (H1.out wa (Below.refl _ _)) ?_));refine(HWK.out wa HBWA.out).mono ?_;rintro e_ w1 ⟨rfl,hb1⟩;have HB1:=zq hb1;clear hb1;by_cases z0:ex=0;rotate_left
 ·have q0:(ex !=0)=true:=by simp[z0]
  obtain⟨rfl,rfl⟩:XL=[]/\XE=ex:=by have h_:=HX.out;unfold qaM at h_;rw[HW.out,if_neg z0]at h_;exact⟨(congrArg Prod.fst h_).symm,(congrArg Prod.snd h_).symm⟩
  clear z0;go_wp2;go_ret2
  exact⟨none,0,rfl,SlO.nil _ _ _,Nat.le_refl _,HBWA.out.trans ((HB1.out.alloc HB1.out.size _).mono HBWA.out.size)⟩
 subst z0;have q0:((0:Int) !=0)=false:=rfl;have HGK:=zq (gone_ok HW.out);have HOK:=zq (qaD HGK.out.1).1;have HIN:=zq (qb3 HOK.out (qaO.1 HGK.out.2.1).2);have HLI:=zq (qaT HOK.out (s:=stepP ⟨pe,pa,pr⟩) (qbh.1 (qaO.1 HGK.out.2.1).2).1);have HXO:=zq (show overE t (goneL t ⟨pe,pa,pr⟩ n) (intoP t ⟨pe,pa,pr⟩) (intoP t ⟨pe,pa,pr⟩+n)=(XL,XE)from by have h_:=HX.out;unfold qaM at h_;rw[HW.out,if_pos rfl]at h_;exact h_);rw[qc9 HGK.out.2.1]at HEO;obtain⟨I,hI⟩:=geZ (intoP t ⟨pe,pa,pr⟩);rw[hI]at HIN HEO HXO;obtain⟨J,hJ⟩:=geZ (I+n);have hw1:IntKind.i64.wrap (I+n)=J:=by rw[IntKind.wrap_i64];have h1_:=HIN.out;have h2_:=HLI.out;have h3_:=HGK.out.2.2;omega
 have HW1:=zq hw1;rw[hJ]at HXO;have HGL:=zq HGK.out.2.2.2.2.2;obtain⟨G,hG⟩:=geZ (goneL t ⟨pe,pa,pr⟩ n);rw[hG]at HXO HGL;have HWD:=zq (fun W hW=>HWD.out W hW _ HW.out);rw[hG]at HWD;clear hI hJ hw1 hG HX HIN HLI;go_upto_region 4 with fail;obtain⟨w2,hw2⟩:=geZ (w1.alloc (.cells #[.int .i64 xe,.int .i64 xa,.bool xr] 51));rw[hw2];have HB2:=zq (show Below wa.heap.size wa w2 from by rw[<-hw2];exact HB1.out.alloc HB1.out.size _);clear hw2 HB1;go_wp2_with (first|(with_reducible refine ldZ 21 (H0.out w2 HB2.out) ?_)|(with_reducible refine ldZ 22 (H1.out w2 HB2.out) ?_));refine(HEO.out w2 (HBWA.out.trans (HB2.out.mono HBWA.out.size))).mono ?_;rintro e_ w3 ⟨rfl,hb3⟩;have HB3:=tB HB2 hb3;clear hb3 HB2;go_upto_region 5 with fail;refine wp_region_held_drew (S:=(fun W_=>(Has W_ (w.heap.size) 27 (tpC t a))/\(Has W_ (w.heap.size+1) 51 #[.int .i64 pe,.int .i64 pa,.bool pr])/\(Below wa.heap.size wa W_))) (by kernel_rfl) ?_ (fun hHeld=>?_)
 ·exact⟨(H0.out _ HB3.out).draw,(H1.out _ HB3.out).draw,qaf HB3.out⟩
 refine tlZ 0 24 w.heap.size (tpC t a) (fun _ ⟨h_,_,_⟩=>h_) (h:=?_);simp only[lyZ];refine tlZ 1 25 w.heap.size (tpC t a) (fun _ ⟨h_,_,_⟩=>h_) (h:=?_);simp only[lyZ];refine tlZ 2 26 (w.heap.size+1) #[.int .i64 pe,.int .i64 pa,.bool pr] (fun _ ⟨_,h_,_⟩=>h_) (h:=?_);simp only[lyZ];refine tkZ 3 27 (h:=?_);simp only[lyZ];refine tkZ 5 29 (h:=?_);simp only[lyZ];refine tkZ 6 30 (h:=?_);simp only[lyZ];refine tkZ 7 31 (h:=?_);simp only[lyZ];refine tqZ 8 32 (fun w_ ⟨s0,s1,s2⟩=>HW1.out) (h:=?_);simp only[lyZ];refine aoZ 4 (some 28) (fun K hK=>?_);go_simp;obtain⟨s0,s1,s2⟩:=hHeld;refine(HWD.out _ (bu HBWA.out s2)).mono ?_;rintro e_ q1 ⟨X1,x1,rfl,ho1,hb1_⟩;have HO1:=zq (ho1.sl);go_wp2_with fail;refine hK.out _ _ ?_ (fun hHeld=>?_)
 ·exact⟨s0.u hb1_,s1.u hb1_,bu s2 hb1_⟩
 clear hK K s0 s1 s2
 try simp only[lyZ]
 refine aoZ 9 (some 33) (fun K hK=>?_);go_simp;obtain⟨s0,s1,s2⟩:=hHeld;refine(osn_over0 t a G X1 _ x1 I J _ (HT.out _ s2) HO1.out (by have:=HGL.out;omega) HLT.out).mono ?_;rw[HXO.out];dsimp only;rintro e_ q2 ⟨X2,x2,rfl,ho2,hc2,hb2_⟩;have HS2:=zq ho2;have HC2:=zq hc2;have HO1:=zq (HO1.out.under hb2_);go_wp2_with fail;refine hK.out _ _ ?_ (fun hHeld=>?_)
 ·exact⟨s0.u hb2_,s1.u hb2_,bu s2 hb2_⟩
 clear hK K s0 s1 s2
 try simp only[lyZ]
 refine tkZ 10 34 (h:=?_);simp only[lyZ];refine tkZ 11 35 (h:=?_);simp only[lyZ];refine tkZ 12 6 (h:=?_);simp only[lyZ];refine tkZ 13 7 (h:=?_);simp only[lyZ];refine dnZ ?_;have HBZ:=zq (HBWA.out.trans (hHeld.2.2.mono HBWA.out.size));clear hHeld;go_wp2;go_ret2
 exact⟨X2,x2,rfl,HS2.out,HC2.out,HBZ.out⟩
end
end Go.Proofs.YtahadmeilajdgaaGreatDoor
