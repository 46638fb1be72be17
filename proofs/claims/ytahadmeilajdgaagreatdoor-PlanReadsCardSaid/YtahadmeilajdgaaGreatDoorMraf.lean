/-
  Our own text, joined.
-/
import Derived.Test.YtahadmeilajdgaaGreatDoorMrad
import Derived.BigQuiet
import Derived.IntWalk
import Derived.Test.YtahadmeilajdgaaGreatDoorMraa
import Derived.Test.YtahadmeilajdgaaGreatDoorMrae
import Derived.Test.YtahadmeilajdgaaGreatDoorMrac
import Derived.Test.YtahadmeilajdgaaGreatDoorMrab
namespace Go.Proofs.YtahadmeilajdgaaGreatDoor
set_option maxRecDepth 100000
set_option maxHeartbeats 40000000
section
open Go.RowKit
open Go.Great
theorem rlength_e (t:Tp3)(a:TpA)(path:List St3)(A:Option Addr)(n c:Nat)(w:World)(ht:TopR w t a)(hp:SlO stC 2 w A n c path)(hn:n<=1048576)(hj:t.joints.length<=100):
  Calls Tryz.prog 138 #[.agg (tpC t a),.slice A n c] w fun e w'=> ∃N:Int,e= .returned (.tuple #[.int .i64 N,.int .i64 (lenE t path)])/\Below w.heap.size w w':=by
 obtain⟨wa,hwa,hbwa,HWA,HBWA,h0⟩:=bx1Z w 27 (tpC t a);have H0:=zH h0;have HT:=zq (fun W (hW:Below w.heap.size w W)=>ht.under hW);have HP:=zq (fun W (hW:Below w.heap.size w W)=>hp.under hW);have HBA:=zq (fun W (hW:Below wa.heap.size wa W)=>hbwa.trans (hW.mono hbwa.size));have HL:=zq hp.1;obtain⟨rE,hrE⟩: ∃r,lenE t path=r:=⟨_,rfl⟩
 have HRE:=zq hrE;rw[hrE];clear hwa hbwa h0 ht hp hrE;by_cases hz:n=0
 ·have x1:(n:Int)=0:=by omega
  go_enter Tryz.func138,Tryz.ntmps138;skip;go_wp2;go_ret2
  have hE:rE=1:=by rw[<-HRE.out];unfold lenE;rw[if_pos (by have:=HL.out;omega)]
  subst hE
  first|exact⟨_,rfl,by rw[HWA.out];exact HBWA.out⟩|exact⟨⟨_,rfl⟩,by rw[HWA.out];exact HBWA.out⟩
 by_cases hf:40<n
 ·have x1: ¬(n:Int)=0:=by omega
  have x2:(40:Int)<n:=by omega
  go_enter Tryz.func138,Tryz.ntmps138;go_wp2;go_ret2
  have hE:rE=1:=by rw[<-HRE.out];unfold lenE;rw[if_pos (by have:=HL.out;omega)]
  subst hE
  first|exact⟨_,rfl,by rw[HWA.out];exact HBWA.out⟩|exact⟨⟨_,rfl⟩,by rw[HWA.out];exact HBWA.out⟩
 have x1: ¬(n:Int)=0:=by omega
 have x2: ¬(40:Int)<n:=by omega
 go_enter Tryz.func138,Tryz.ntmps138;go_upto_region 3 with fail;rw[HWA.out];clear HWA;have HNZ:=zq (show n≠0/\n<=40 from⟨hz,by omega⟩);have hz2:((n:Int)==0)=false:=by simp[hz]
 simp only[hz2];clear hz2;clear x1 x2 hz hf;go_wp2;go_loopg [6,7] n (fun kk v6 v7 wl=> ∃i:Nat,i<=n/\n-i<=kk/\v7= .int .i64 i/\(∃sv:Int,v6= .int .i64 sv)/\Hid (∀s∈path.take i,edgeB t s.edge=true)/\Below wa.heap.size wa wl)
 case atStart=>exact⟨0,by omega,by omega,rfl,⟨0,rfl⟩,zq (by simp),Below.refl _ _⟩
 obtain⟨i,hi,hik,rfl,⟨sv,rfl⟩,HED,hwr⟩:=hrel;have HWR:=zq hwr;by_cases hlt:i<n;rotate_left
 ·obtain rfl:i=n:=by omega
  have x1: ¬(i:Int)<i:=by omega
  have hti:path.take i=path:=List.take_of_length_le (by have:=HL.out;omega);have HALL:Hid (∀s∈path,edgeB t s.edge=true):=zq (by have h_:=HED.out;rw[hti]at h_;exact h_);clear hti HED hi hik hwr;go_upto_region 11 with fail;clear x1;go_wp2;go_loopg [9] i (fun kk v wl=> ∃m:Nat,1<=m/\m<=i/\i-m<=kk/\v= .int .i64 m/\Hid (∀k a b,k+1<m->path[k]?=some a->path[k+1]?=some b->mayT t a b=true)/\Below wa.heap.size wa wl)
  case atStart=>exact⟨1,by omega,by have:=HNZ.out;omega,by omega,rfl,zq (fun k a b h=>absurd h (by omega)),HWR.out⟩
  obtain⟨m,hm1,hm,hmk,rfl,HMA,hwm⟩:=hrel;have HWM:=zq hwm;by_cases hml:m<i;rotate_left
  ·obtain rfl:m=i:=by omega
   have x1: ¬(m:Int)<m:=by omega
   clear hm hmk hwm;go_wp2;go_ret2
   have h0_:lenE t path=0:=(by unfold lenE;rw[if_neg (by have h1_:=HL.out;have h2_:=HNZ.out;omega),if_pos (List.all_eq_true.2 HALL.out),if_pos (qgw.2 fun k a b ha hb=>HMA.out k a b (by have h1_:=(List.getElem?_eq_some_iff.1 hb).1;have h2_:=HL.out;omega) ha hb)])
   have hE:rE=0:=by rw[<-HRE.out];exact h0_
   subst hE
   first|exact⟨_,rfl,HBA.out _ HWM.out⟩|exact⟨⟨_,rfl⟩,HBA.out _ HWM.out⟩
  obtain⟨x,hx⟩:=glZ path (m-1) (by have:=HL.out;omega);obtain⟨y,hy⟩:=glZ path (m) (by have:=HL.out;omega);have HX:=zq hx;have HY:=zq hy;obtain⟨bk,off,rfl,-,-⟩:=(HP.out w (Below.refl _ _)).step hx;have HCX:=zq (fun W (hW:Below w.heap.size w W)=>(show W.cell? ⟨bk,off+(m-1)*2,none⟩=some (.int .i64 x.edge)/\W.cell? ⟨bk,off+(m-1)*2+1,none⟩=some (.bool x.rev)from by obtain⟨b_,o_,e_,h1_,h2_⟩:=(HP.out W hW).step hx;injection e_ with e_;injection e_ with e1_ e2_ _;subst e1_ e2_;exact⟨h1_,h2_⟩));have HCY:=zq (fun W (hW:Below w.heap.size w W)=>(show W.cell? ⟨bk,off+m*2,none⟩=some (.int .i64 y.edge)/\W.cell? ⟨bk,off+m*2+1,none⟩=some (.bool y.rev)from by obtain⟨b_,o_,e_,h1_,h2_⟩:=(HP.out W hW).step hy;injection e_ with e_;injection e_ with e1_ e2_ _;subst e1_ e2_;exact⟨h1_,h2_⟩));obtain⟨bq,hbq⟩: ∃b,mayT t x y=b:=⟨_,rfl⟩
  have HBQ:=zq hbq;have hw1:IntKind.i64.wrap ((m:Int)-1)=(m:Int)-1:=by have:=HNZ.out;rw[IntKind.wrap_i64];omega
  have hw2:((m:Int)-1).toNat=m-1:=by omega
  have y0:(0:Int)<=(m:Int)-1:=by omega
  have y1:(m:Int)-1<i:=by omega
  have y2:(0:Int)<=(m:Int):=by omega
  have y4:(1:Int)<=(m:Int):=by omega
  have y3:(m:Int)<i:=by omega
  clear hx hy hwm hbq;go_upto_region 14 with fail;refine wp_region_held_drew (S:=(fun W_=>Has W_ (w.heap.size) 27 (tpC t a)/\Below wr.heap.size wr W_)) (by kernel_rfl) ?_ (fun hHeld=>?_)
  ·exact⟨(H0.out _ HWM.out).draw,qah (Below.refl _ _)⟩
  refine tlZ 0 51 w.heap.size (tpC t a) (fun _ ⟨h_,_⟩=>h_) (h:=?_);simp only[lyZ];refine tkZ 1 52 (h:=?_);simp only[lyZ];refine tkZ 2 53 (h:=?_);simp only[lyZ];refine tkZ 3 54 (h:=?_);simp only[lyZ];refine tkZ 4 55 (h:=?_);simp only[lyZ];refine tqZ 5 56 (fun w_ hSw=>HCX.out w_ (HBA.out w_ (HWM.out.trans (hSw.2.mono HWM.out.size)))) (h:=?_);simp only[lyZ];refine tkZ 6 57 (h:=?_);simp only[lyZ];refine tkZ 7 58 (h:=?_);simp only[lyZ];refine tkZ 8 59 (h:=?_);simp only[lyZ];refine tqZ 9 60 (fun w_ hSw=>HCY.out w_ (HBA.out w_ (HWM.out.trans (hSw.2.mono HWM.out.size)))) (h:=?_);simp only[lyZ];refine rdZ [10] ?_;refine acZ (some 61) (fun K hK=>?_) ?_
  ·go_simp
   obtain⟨s0,s1⟩:=hHeld;have hlo_:=HBA.out _ (bu HWM.out s1);refine(rmay_any t a x y _ (HT.out _ hlo_).j (by omega)).mono ?_;rw[HBQ.out];rintro e_ vs ⟨rfl,hbs⟩;go_wp2_with fail;refine hK.out _ _ ?_ (fun hHeld=>?_)
   ·exact⟨s0.u hbs,bu s1 hbs⟩
   clear hK K s0 s1
   try simp only[lyZ]
   refine tkZ 11 10 (h:=?_);simp only[lyZ];refine dnZ ?_;clear hw1 hw2 y0 y1 y2 y3 y4
   cases bq with
   |false=>
    go_wp2;go_ret2
    have h1_:lenE t path=141:=by unfold lenE;rw[if_neg (by have h1_:=HL.out;have h2_:=HNZ.out;omega),if_pos (List.all_eq_true.2 HALL.out),if_neg (fun h=>by have h_:=qgw.1 h (m-1) x y HX.out (by rw[show m-1+1=m by omega];exact HY.out);rw[HBQ.out]at h_;cases h_)]
    have hE:rE=141:=by rw[<-HRE.out];exact h1_
    subst hE
    first|exact⟨_,rfl,HBA.out _ (HWM.out.trans (hHeld.2.mono HWM.out.size))⟩|exact⟨⟨_,rfl⟩,HBA.out _ (HWM.out.trans (hHeld.2.mono HWM.out.size))⟩
   |true=>
    go_wp2;go_roundg (gk-1)
    case measure=>omega
    case rel=>
     refine⟨m+1,by omega,by omega,by omega,by go_num,zq (fun k a' b' hk ha hb=>?_),HWM.out.trans (hHeld.2.mono HWM.out.size)⟩;by_cases hkm:k+1=m
     ·have e_:k=m-1:=by omega
      rw[e_,HX.out]at ha;rw[hkm,HY.out]at hb;injection ha with ha
      injection hb with hb
      rw[<-ha,<-hb];exact HBQ.out
     ·exact HMA.out k a' b' (by omega) ha hb
  exact AllReadyH.nil
 obtain⟨x,hx⟩:=glZ path (i) (by have:=HL.out;omega);have HX:=zq hx;obtain⟨bk,off,rfl,-,-⟩:=(HP.out w (Below.refl _ _)).step hx;have HCX:=zq (fun W (hW:Below w.heap.size w W)=>(show W.cell? ⟨bk,off+i*2,none⟩=some (.int .i64 x.edge)from by obtain⟨b_,o_,e_,h1_,h2_⟩:=(HP.out W hW).step hx;injection e_ with e_;injection e_ with e1_ e2_ _;subst e1_ e2_;exact h1_));obtain⟨bq,hbq⟩: ∃b,edgeB t x.edge=b:=⟨_,rfl⟩
 have HBQ:=zq hbq;have y0:(0:Int)<=(i:Int):=by omega
 have y1:(i:Int)<n:=by omega
 clear hx hbq hwr;go_upto_region 7 with fail;refine wp_region_held_drew (S:=(fun W_=>Has W_ (w.heap.size) 27 (tpC t a)/\Below wr.heap.size wr W_)) (by kernel_rfl) ?_ (fun hHeld=>?_)
 ·exact⟨(H0.out _ HWR.out).draw,qah (Below.refl _ _)⟩
 refine tlZ 0 25 w.heap.size (tpC t a) (fun _ ⟨h_,_⟩=>h_) (h:=?_);simp only[lyZ];refine tkZ 1 26 (h:=?_);simp only[lyZ];refine tkZ 2 27 (h:=?_);simp only[lyZ];refine tkZ 3 28 (h:=?_);simp only[lyZ];refine tkZ 4 29 (h:=?_);simp only[lyZ];refine tqZ 5 30 (fun w_ hSw=>HCX.out w_ (HBA.out w_ (HWR.out.trans (hSw.2.mono HWR.out.size)))) (h:=?_);simp only[lyZ];refine rdZ [6] ?_;refine acZ (some 31) (fun K hK=>?_) ?_
 ·go_simp
  obtain⟨s0,s1⟩:=hHeld;refine(qdl t a x.edge _).mono ?_;rw[HBQ.out];rintro e_ vs ⟨rfl,hbs⟩;go_wp2_with fail;refine hK.out _ _ ?_ (fun hHeld=>?_)
  ·exact⟨s0.u hbs,bu s1 hbs⟩
  clear hK K s0 s1
  try simp only[lyZ]
  refine tkZ 7 8 (h:=?_);simp only[lyZ];refine dnZ ?_;have HBE:=zq (HWR.out.trans (hHeld.2.mono HWR.out.size));have HH0:=zq hHeld.1;clear hHeld
  cases bq with
  |false=>
   go_wp2;go_ret2
   have h1_:lenE t path=1:=by unfold lenE;rw[if_neg (by have h1_:=HL.out;have h2_:=HNZ.out;omega),if_neg (fun h=>by have h_:=List.all_eq_true.1 h x (List.mem_of_getElem? HX.out);rw[HBQ.out]at h_;cases h_)]
   have hE:rE=1:=by rw[<-HRE.out];exact h1_
   subst hE
   first|exact⟨_,rfl,HBA.out _ HBE.out⟩|exact⟨⟨_,rfl⟩,HBA.out _ HBE.out⟩
  |true=>
   have hed:0<=x.edge/\x.edge<t.edges.length:=by have h_:=HBQ.out;unfold edgeB at h_;simpa using h_
   obtain⟨e,hee⟩: ∃e:Nat,x.edge=e:=⟨x.edge.toNat,by omega⟩
   have hel:e<t.edges.length:=by omega
   have cx:=HCX.out _ (HBA.out _ HBE.out);rw[hee]at cx;obtain⟨be,oe,hae,ce⟩:=(HT.out _ (HBA.out _ HBE.out)).e.edge hel;have c0:=HH0.out.cell 0;obtain⟨q,hq⟩:=geZ (t.edges.getD e 0);rw[hq]at ce;have c0':vs.cell? ⟨w.heap.size,0,none⟩=some (.slice (some ⟨be,oe,none⟩) t.edges.length a.ce):=by first|exact c0.trans (by rw[<-hae];rfl)|(rw[<-hae];exact c0)
   have z0:(0:Int)<=e:=by omega
   have z1:(e:Int)<t.edges.length:=by omega
   obtain⟨me,hme⟩: ∃m,t.edges.length=m:=⟨_,rfl⟩
   have HME:=zq hme;rw[hme]at c0' z1;clear c0 hed hel hq hme;go_upto_region 10 with fail;go_quiet (fail);go_wp2;go_roundg (gk-1)
   case measure=>omega
   case rel=>
    refine⟨i+1,by omega,by omega,by go_num,⟨_,rfl⟩,zq (fun s hs=>?_),qaa HBE.out _⟩
    ·rw[List.take_add_one,HX.out]at hs
     rcases List.mem_append.1 hs with h|h
     ·exact HED.out s h
     ·rw[List.mem_singleton.1 h];exact HBQ.out
 exact AllReadyH.nil
end
section
open Go.RowKit
open Go.Great
theorem rlength_n (t:Tp3)(a:TpA)(path:List St3)(A:Option Addr)(n c:Nat)(w:World)(ht:TopR w t a)(hp:SlO stC 2 w A n c path)(hn:n<=1048576)(hj:t.joints.length<=100):
  Calls Tryz.prog 138 #[.agg (tpC t a),.slice A n c] w fun e w'=> ∃N:Int,e= .returned (.tuple #[.int .i64 N,.int .i64 (lenE t path)])/\(qaF t=true->N=lenN t path)/\Below w.heap.size w w':=by
 cases hq:qaF t with
 |true=>exact(qdT t a path A n c w ht hp hn hj hq).mono fun e w' h=>⟨_,h.1,fun _=>rfl,h.2⟩
 |false=>exact(rlength_e t a path A n c w ht hp hn hj).mono fun e w' h=>by obtain⟨N,h1,h2⟩:=h;exact⟨N,h1,(fun h=>by cases h),h2⟩
end
section
open Go.RowKit
open Go.Great
def eqC17 (a b:Sc3):Bool:=(a.to_==b.to_) &&(a.timer==b.timer)
theorem qcA (a b:Sc3):eqC17 a b=true↔a=b:=by
 obtain⟨x,y⟩:=a;obtain⟨u,v⟩:=b;unfold eqC17;simp
theorem eq_sc17 (a b:Sc3)(W:World):(Op.equalIn 10000 66 (.agg (scA17 a)) (.agg (scA17 b))).run Tryz.prog W= .ok (eqC17 a b) W:=by
 rw[show(10000:Nat)=9999+1 from rfl,run_equalIn_struct W 9999 66 _ _ (by kernel_rfl) (by kernel_rfl)];simp only[Program.fieldsOf,Tryz.underlying66];unfold eqC17 scA17;by_cases h0:a.to_=b.to_;rotate_left
 ·refine(qbl W 9999 (scA17 a) (scA17 b) _ _ (.int .i64 a.to_) (.int .i64 b.to_) (by decide) (qam W 3 (scA17 a) 0 (.int .i64 a.to_) (by kernel_rfl) rfl) (qam W 3 (scA17 b) 0 (.int .i64 b.to_) (by kernel_rfl) rfl) (by rw[show(9999:Nat)=9998+1 from rfl,run_equalIn_int W 9998 3 .i64 .i64 _ _ Tryz.underlying3];simp[h0])).trans ?_
  have e:(a.to_==b.to_)=false:=by simp[h0]
  simp[e]
 refine(qaV W 9999 (scA17 a) (scA17 b) _ _ (.int .i64 a.to_) (.int .i64 b.to_) (by decide) (qam W 3 (scA17 a) 0 (.int .i64 a.to_) (by kernel_rfl) rfl) (qam W 3 (scA17 b) 0 (.int .i64 b.to_) (by kernel_rfl) rfl) (by rw[show(9999:Nat)=9998+1 from rfl,run_equalIn_int W 9998 3 .i64 .i64 _ _ Tryz.underlying3];simp[h0])).trans ?_;by_cases h1:a.timer=b.timer;rotate_left
 ·refine(qbl W 9999 (scA17 a) (scA17 b) _ _ (.int .i64 a.timer) (.int .i64 b.timer) (by decide) (qam W 3 (scA17 a) 1 (.int .i64 a.timer) (by kernel_rfl) rfl) (qam W 3 (scA17 b) 1 (.int .i64 b.timer) (by kernel_rfl) rfl) (by rw[show(9999:Nat)=9998+1 from rfl,run_equalIn_int W 9998 3 .i64 .i64 _ _ Tryz.underlying3];simp[h1])).trans ?_
  have e:(a.timer==b.timer)=false:=by simp[h1]
  simp[e]
 refine(qaV W 9999 (scA17 a) (scA17 b) _ _ (.int .i64 a.timer) (.int .i64 b.timer) (by decide) (qam W 3 (scA17 a) 1 (.int .i64 a.timer) (by kernel_rfl) rfl) (qam W 3 (scA17 b) 1 (.int .i64 b.timer) (by kernel_rfl) rfl) (by rw[show(9999:Nat)=9998+1 from rfl,run_equalIn_int W 9998 3 .i64 .i64 _ _ Tryz.underlying3];simp[h1])).trans ?_;refine(qbX W 9999 _ _).trans ?_;simp[h0,h1]
theorem eql_sc17 (a b:Sc3)(W:World):(binOp .eql 66 (.agg (scA17 a)) (.agg (scA17 b))).run Tryz.prog W= .ok (.bool (eqC17 a b)) W:=by
 rw[run_eql_struct,eq_sc17];rfl
theorem neq_sc17 (a b:Sc3)(W:World):(binOp .neq 66 (.agg (scA17 a)) (.agg (scA17 b))).run Tryz.prog W= .ok (.bool (!eqC17 a b)) W:=by
 rw[run_neq_struct,eq_sc17];rfl
theorem SlO.sect {w:World}{A:Option Addr}{n c:Nat}{l:List Sc3}(h:SlO scC17 2 w A n c l){j:Nat}{x:Sc3}(hx:l[j]?=some x):
  ∃b off,A=some ⟨b,off,none⟩/\w.cell? ⟨b,off+j*2,none⟩=some (.int .i64 x.to_)/\w.cell? ⟨b,off+j*2+1,none⟩=some (.int .i64 x.timer):=by
 obtain⟨b,off,e,hc⟩:=h.at_ (fun _=>rfl) (by decide) hx;exact⟨b,off,e,hc 0 _ rfl,hc 1 _ rfl⟩
theorem nodup_take17 {path:List St3}{i:Nat}{x:St3}(hx:path[i]?=some x)(h:((path.take i).map (·.edge)).Nodup)(hne: ∀m y,m<i->path[m]?=some y->y.edge≠x.edge):((path.take (i+1)).map (·.edge)).Nodup:=by
 rw[List.take_add_one,hx,List.map_append,List.nodup_append];refine⟨h,by simp,fun u hu v hv=>?_⟩;simp at hv;subst hv;obtain⟨y,hy,rfl⟩:=List.mem_map.1 hu;obtain⟨m,hm,rfl⟩:=List.getElem_of_mem hy;rw[List.length_take]at hm;rw[List.getElem_take];exact hne m _ (by omega) (List.getElem?_eq_getElem (by omega))
theorem twice_hit17 {path:List St3}{k i:Nat}{x y:St3}(hk:k<i)(hy:path[k]?=some y)(hx:path[i]?=some x)(h:y.edge=x.edge):qa6 path=true:=by
 unfold qa6;rw[decide_eq_true_eq];intro hn;have h1:k<(path.map (·.edge)).length:=by rw[List.length_map];exact(List.getElem?_eq_some_iff.1 hy).1
 have h2:=(List.getElem?_inj (j:=i) h1 hn).1 (by rw[List.getElem?_map,List.getElem?_map,hy,hx];simp[h]);omega
theorem place17 (t:Tp3)(m:Ma3):qbf t m=⟨(balR t m.ref).edge,(balR t m.ref).at_,m.rev⟩:=by
 unfold qbf balR
 cases balF t m.ref<;>rfl
def endW (m:Ma3):Int:=if m.sects.length=0 then m.gap else wrap64 (endM m+m.gap)
theorem end17 {m:Ma3}{i:Nat}{s:Sc3}(hi:i+1=m.sects.length)(hs:m.sects[i]?=some s):endM m=s.to_:=by
 unfold endM;refine last_get (q:=s) ?_;rw[List.getLast?_eq_getElem?,<-hi];exact hs
theorem rtwice17 (path:List St3)(A:Option Addr)(n c:Nat)(w:World)(hp:SlO stC 2 w A n c path)(hn:n<=1048576):
  Calls Tryz.prog 62 #[.slice A n c] w fun r w'=>r= .returned (.bool (qa6 path))/\Below w.heap.size w w':=by
 have HP:=zq hp;have HL:=zq hp.1;obtain⟨R,hR⟩:=geZ (qa6 path);have HR:=zq hR;rw[hR];clear hR hp;go_enter Tryz.func62,Tryz.ntmps62;go_wp2;go_loopg [3] n (fun kk v3 wl=> ∃i nq:Nat,i<=n/\n-i<=kk/\v3= .int .i64 i/\Hid (((path.take i).map (·.edge)).Nodup)/\wl=w.drewN nq)
 case atStart=>exact⟨0,0,by omega,by omega,rfl,zq (by simp),rfl⟩
 obtain⟨i,nq,hi,hik,rfl,HND,rfl⟩:=hrel;obtain⟨k1,hk1⟩: ∃k1,k1=gk:=⟨_,rfl⟩
 subst hk1;by_cases hlt:i<n;rotate_left
 ·obtain rfl:i=n:=by omega
  have x1: ¬(i:Int)<i:=by omega
  have HF:Hid (R=false):=zq (by have h_:=HND.out;rw[List.take_of_length_le (by rw[HL.out];exact Nat.le_refl _)]at h_;rw[<-HR.out];unfold qa6;exact decide_eq_false (fun h=>h h_));clear hik hlt;go_wp2;go_ret
  exact⟨by rw[HF.out];rfl,qaa (Below.refl _ _) _⟩
 obtain⟨x,hx⟩:=glZ path (i) (by rw[HL.out];exact hlt);have HX:=zq hx;obtain⟨bk,off,rfl,d0,-⟩:=HP.out.step hx;have x1:(i:Int)<n:=by omega
 have HLT:=zq (show i<n/\n-i<=k1 from⟨hlt,hik⟩);clear hx hik hi;go_upto_region 4 with fail;clear x1;go_wp2;go_loopg [4] i (fun kk v4 wl=> ∃k q2:Nat,k<=i/\i-k<=kk/\v4= .int .i64 k/\Hid (∀m y,m<k->path[m]?=some y->y.edge≠x.edge)/\wl=w.drewN q2)
 case atStart=>exact⟨0,nq,by omega,by omega,rfl,zq (fun m y h=>absurd h (by omega)),rfl⟩
 obtain⟨k,q2,hk,hkk,rfl,HNE,rfl⟩:=hrel;by_cases hkl:k<i;rotate_left
 ·obtain rfl:k=i:=by omega
  have x2: ¬(k:Int)<k:=by omega
  clear hk hkk hkl hlt d0;go_wp2;go_roundg (k1-1)
  case measure=>have:=HLT.out;omega
  case rel=>exact⟨k+1,q2,by have:=HLT.out;omega,by have:=HLT.out;omega,by first|go_num|(rw[IntWalk.wrap64_in _ (by have:=HLT.out;omega)];go_num),zq (nodup_take17 HX.out HND.out HNE.out),rfl⟩
 obtain⟨y,hy⟩:=glZ path (k) (by rw[HL.out];have:=HLT.out;omega);have HY:=zq hy;obtain⟨b_,o_,e_,e0,-⟩:=HP.out.step hy;injection e_ with e_
 injection e_ with e1_ e2_ _
 subst e1_ e2_;clear hy;obtain⟨ye,hye⟩: ∃e,y.edge=e:=⟨_,rfl⟩
 obtain⟨xe,hxe⟩: ∃e,x.edge=e:=⟨_,rfl⟩
 have HYE:=zq hye;have HXE:=zq hxe;rw[hye]at e0;have d0':=d0;rw[hxe]at d0';clear hye hxe;have y0:(0:Int)<=k:=by omega
 have y1:(k:Int)<n:=by omega
 have y2:(0:Int)<=i:=by omega
 have y3:(i:Int)<n:=by omega
 have y4:(k:Int)<i:=by omega
 clear d0;by_cases hee:ye=xe
 ·have HF:Hid (R=true):=zq (by rw[<-HR.out];exact twice_hit17 hkl HY.out HX.out (by rw[HYE.out,HXE.out];exact hee))
  subst hee;go_upto_region 7 with fail;go_quiet (fail);go_wp2;go_ret
  exact⟨by rw[HF.out];rfl,by first|exact qaa (Below.refl _ _) _|(rw[World.drewN_drewN];exact qaa (Below.refl _ _) _)⟩
 have g1:(ye==xe)=false:=by simp[hee]
 have HEE:=zq (show y.edge≠x.edge from by rw[HYE.out,HXE.out];exact hee);clear hee;go_upto_region 7 with fail;go_quiet (fail);go_wp2;go_roundg (gk-1)
 case measure=>omega
 case rel=>
  refine⟨k+1,_,by omega,by omega,by go_num,zq (fun m y' hm hy'=>?_),by first|rfl|rw[World.drewN_drewN]⟩;by_cases hmk:m=k
  ·subst hmk
   rw[HY.out]at hy';injection hy' with hy'
   rw[<-hy'];exact HEE.out
  ·exact HNE.out m y' (by omega) hy'
theorem rmet17 (la lb:List St3)(A B:Option Addr)(n c m d:Nat)(w:World)(ha:SlO stC 2 w A n c la)(hb:SlO stC 2 w B m d lb)(hn:n<=1048576)(hm:m<=1048576):
  Calls Tryz.prog 54 #[.slice A n c,.slice B m d] w fun r w'=>r= .returned (.bool (metS la lb))/\Below w.heap.size w w':=by
 have HA:=zq ha;have HB:=zq hb;have HLA:=zq ha.1;have HLB:=zq hb.1;obtain⟨R,hR⟩:=geZ (metS la lb);have HR:=zq hR;rw[hR];clear hR ha hb;go_enter Tryz.func54,Tryz.ntmps54;go_wp2;go_loopg [5] n (fun kk v5 wl=> ∃i nq:Nat,i<=n/\n-i<=kk/\v5= .int .i64 i/\Hid (∀j x,j<i->la[j]?=some x-> ∀y∈lb,x.edge≠y.edge)/\wl=w.drewN nq)
 case atStart=>exact⟨0,0,by omega,by omega,rfl,zq fun j x h=>absurd h (by omega),rfl⟩
 obtain⟨i,nq,hi,hik,rfl,HNO,rfl⟩:=hrel;obtain⟨k1,hk1⟩: ∃k1,k1=gk:=⟨_,rfl⟩
 subst hk1;by_cases hlt:i<n;rotate_left
 ·have x1: ¬(i:Int)<n:=by omega
  have HF:Hid (R=false):=zq (by rw[<-HR.out,met_no];intro x hx;obtain⟨j,hj,rfl⟩:=List.getElem_of_mem hx;exact HNO.out j _ (by have:=HLA.out;omega) (List.getElem?_eq_getElem hj));clear hik hlt;go_wp2;go_ret
  exact⟨by rw[HF.out];rfl,qaa (Below.refl _ _) _⟩
 obtain⟨x,hx⟩:=glZ la (i) (by rw[HLA.out];exact hlt);have HX:=zq hx;obtain⟨bk,off,rfl,d0,-⟩:=HA.out.step hx;have x1:(i:Int)<n:=by omega
 have HLT:=zq (show i<n/\n-i<=k1 from⟨hlt,hik⟩);clear hx hik hi;go_upto_region 4 with fail;clear x1;go_wp2;go_loopg [6] m (fun kk v6 wl=> ∃k q2:Nat,k<=m/\m-k<=kk/\v6= .int .i64 k/\Hid (∀j y,j<k->lb[j]?=some y->x.edge≠y.edge)/\wl=w.drewN q2)
 case atStart=>exact⟨0,nq,by omega,by omega,rfl,zq (fun m y h=>absurd h (by omega)),rfl⟩
 obtain⟨k,q2,hk,hkk,rfl,HNE,rfl⟩:=hrel;by_cases hkl:k<m;rotate_left
 ·have x2: ¬(k:Int)<m:=by omega
  have HNX:Hid (∀y∈lb,x.edge≠y.edge):=zq fun y hy=>by
   obtain⟨j,hj,rfl⟩:=List.getElem_of_mem hy;exact HNE.out j _ (by have:=HLB.out;omega) (List.getElem?_eq_getElem hj)
  clear hk hkk hkl hlt d0;go_wp2;go_roundg (k1-1)
  case measure=>have:=HLT.out;omega
  case rel=>
   refine⟨i+1,q2,by have:=HLT.out;omega,by have:=HLT.out;omega,by first|go_num|(rw[IntWalk.wrap64_in _ (by have:=HLT.out;omega)];go_num),zq fun j x' hj hx'=>?_,rfl⟩;by_cases hji:j=i
   ·subst hji;rw[HX.out]at hx';injection hx' with hx';rw[<-hx'];exact HNX.out
   ·exact HNO.out j x' (by omega) hx'
 obtain⟨y,hy⟩:=glZ lb (k) (by rw[HLB.out];exact hkl);have HY:=zq hy;obtain⟨bm,om,rfl,e0,-⟩:=HB.out.step hy;clear hy;obtain⟨ye,hye⟩: ∃e,y.edge=e:=⟨_,rfl⟩
 obtain⟨xe,hxe⟩: ∃e,x.edge=e:=⟨_,rfl⟩
 have HYE:=zq hye;have HXE:=zq hxe;rw[hye]at e0;have d0':=d0;rw[hxe]at d0';clear hye hxe;have y0:(0:Int)<=k:=by omega
 have y1:(k:Int)<m:=by omega
 have y2:(0:Int)<=i:=by omega
 have y3:(i:Int)<n:=by omega
 clear d0;by_cases hee:xe=ye
 ·have HF:Hid (R=true):=zq (by
   cases hq:R with
   |true=>rfl
   |false=>
    rw[hq]at HR;exact absurd (by rw[HXE.out,HYE.out];exact hee) (met_no.1 HR.out x (List.mem_of_getElem? HX.out) y (List.mem_of_getElem? HY.out)))
  subst hee;go_upto_region 7 with fail;go_quiet (fail);go_wp2;go_ret
  exact⟨by rw[HF.out];rfl,by first|exact qaa (Below.refl _ _) _|(rw[World.drewN_drewN];exact qaa (Below.refl _ _) _)⟩
 have g1:(xe==ye)=false:=by simp[hee]
 have HEE:=zq (show x.edge≠y.edge from by rw[HYE.out,HXE.out];exact hee);clear hee;go_upto_region 7 with fail;go_quiet (fail);go_wp2;go_roundg (gk-1)
 case measure=>omega
 case rel=>
  refine⟨k+1,_,by omega,by omega,by go_num,zq (fun j y' hj hy'=>?_),by first|rfl|rw[World.drewN_drewN]⟩;by_cases hjk:j=k
  ·subst hjk
   rw[HY.out]at hy';injection hy' with hy'
   rw[<-hy'];exact HEE.out
  ·exact HNE.out j y' (by omega) hy'
theorem rdir17 (rev:Bool)(w:World):Calls Tryz.prog 68 #[.bool rev] w fun r w'=>r= .returned (.int .i64 (dirB rev))/\w=w':=by
 cases rev with
 |true=>
  go_enter Tryz.func68,Tryz.ntmps68;go_wp2;go_ret
  exact⟨rfl,rfl⟩
 |false=>
  go_enter Tryz.func68,Tryz.ntmps68;go_wp2;go_ret
  exact⟨rfl,rfl⟩
theorem rplace17 (t:Tp3)(a:TpA)(m:Ma3)(b:MaA)(w:World)(ht:TopR w t a)(hl:qaJ t=true):
  Calls Tryz.prog 60 #[.agg (tpC t a),.agg (maC m b)] w fun r w'=>r= .returned (.tuple #[.agg (psA (qbf t m)),.bool (balF t m.ref).isSome])/\Below w.heap.size w w':=by
 obtain⟨wa,hwa,hbwa,HWA,HBWA,h0,h1,h2⟩:=bx3Z w 27 (tpC t a) 38 (maC m b) 51 #[.int .i64 0,.int .i64 0,.bool false];have HT:=zq (ht.under hbwa);have H0:=zq h0;have H1:=zH h1;have H2:=zH h2;have HNN:=zq (qav hl);rw[place17];have m0:wa.cell? ⟨w.heap.size+1,0,none⟩=some (.int .i64 m.ref):=h1.cell 0;obtain⟨mr,hmr⟩: ∃r,m.ref=r:=⟨_,rfl⟩
 rw[hmr]at m0⊢;have HC:=zq (rbal_any t a mr wa HT.out (by have:=HNN.out.2.2.1;omega));generalize balR t mr=bl at*;generalize (balF t mr).isSome=q at*;obtain⟨bi,be,ba⟩:=bl;unfold blA at HC;dsimp only at HC⊢;clear hwa hbwa h0 h1 h2 ht hl hmr;go_enter Tryz.func60,Tryz.ntmps60;go_upto_region 1 with fail;rw[HWA.out];clear HWA;go_wp2_with (with_reducible refine ldZ 9 H0.out ?_);refine HC.out.mono ?_;rintro e_ w1 ⟨rfl,hb1⟩;have HB1:=zq hb1;clear hb1 HC m0;go_upto_region 2 with fail;obtain⟨wb,hwb⟩:=geZ (w1.alloc (.cells #[.int .i64 bi,.int .i64 be,.int .i64 ba] 151));rw[hwb];have HBB:=zq (show Below wa.heap.size wa wb from by rw[<-hwb];exact HB1.out.alloc HB1.out.size _);have hH:Has wb w1.heap.size 151 #[.int .i64 bi,.int .i64 be,.int .i64 ba]:=by rw[<-hwb];exact Has.made _ _ _
 obtain⟨gb,hgb⟩: ∃g,w1.heap.size=g:=⟨_,rfl⟩
 simp only[hgb]at hH⊢;have c1:wb.cell? ⟨gb,1,none⟩=some (.int .i64 be):=hH.cell 1;have c2:wb.cell? ⟨gb,2,none⟩=some (.int .i64 ba):=hH.cell 2;have m1:wb.cell? ⟨w.heap.size+1,1,none⟩=some (.bool m.rev):=(H1.out wb HBB.out).cell 1;have HZ:=zq (H2.out wb HBB.out);clear hwb hH hgb HB1;have HR:=zq (qab HZ.out #[.int .i64 be,.int .i64 ba,.bool m.rev]);have HBF:=zq (qac (g:=w.heap.size+1+1) (HBWA.out.trans (HBB.out.mono HBWA.out.size)) (by omega) #[.int .i64 be,.int .i64 ba,.bool m.rev]);go_wp2_with (with_reducible refine stZ #[.int .i64 be,.int .i64 ba,.bool m.rev] HZ.out ?_);refine rtZ HR.out ?_;exact⟨rfl,HBF.out⟩
theorem rbehind17 (t:Tp3)(a:TpA)(m:Ma3)(b:MaA)(w:World)(ht:TopR w t a)(hl:qaJ t=true)(hcj:t.joints.length<=a.cj)(hm:SlO stC 2 w b.ap m.path.length b.cp m.path)(hn:m.path.length<=1048576):
  Calls Tryz.prog 139 #[.agg (tpC t a),.agg (maC m b)] w fun r w'=>r= .returned (.int .i64 (qa1 t m))/\Below w.heap.size w w':=by
 obtain⟨wa,hwa,hbwa,HWA,HBWA,h0,h1⟩:=bx2Z w 27 (tpC t a) 38 (maC m b);have HT:=zq (fun W (hW:Below wa.heap.size wa W)=>(ht.under hbwa).under hW);have HP:=zq (fun W (hW:Below wa.heap.size wa W)=>(hm.under hbwa).under hW);have H0:=zH h0;have H1:=zH h1;have HLT:=zq hl;have HCJ:=zq hcj;have HN:=zq hn;obtain⟨p,hp⟩:=geZ (qbf t m);have HC:=zq (rplace17 t a m b wa (ht.under hbwa) hl);rw[hp]at HC;obtain⟨R,hR⟩:=geZ (qa1 t m);have HR:=zq (show(onE t m.path p).1=R from by rw[<-hp];exact hR);rw[hR];clear hwa hbwa h0 h1 ht hl hcj hm hn hp hR;obtain⟨pe,pa,pr⟩:=p;unfold psA at HC;dsimp only at HC;go_enter Tryz.func139,Tryz.ntmps139;go_upto_region 1 with fail;rw[HWA.out];clear HWA;go_wp2_with (first|(with_reducible refine ldZ 10 (H0.out wa (Below.refl _ _)) ?_)|(with_reducible refine ldZ 11 (H1.out wa (Below.refl _ _)) ?_));refine HC.out.mono ?_;rintro e_ w1 ⟨rfl,hb1⟩;have HB1:=zq hb1;clear hb1 HC;generalize (balF t m.ref).isSome=q;go_upto_region 2 with fail;obtain⟨wb,hwb⟩:=geZ (w1.alloc (.cells #[.int .i64 pe,.int .i64 pa,.bool pr] 51));rw[hwb];have HBB:=zq (show Below wa.heap.size wa wb from by rw[<-hwb];exact HB1.out.alloc HB1.out.size _);have hH:Has wb w1.heap.size 51 #[.int .i64 pe,.int .i64 pa,.bool pr]:=by rw[<-hwb];exact Has.made _ _ _
 obtain⟨gb,hgb⟩: ∃g,w1.heap.size=g:=⟨_,rfl⟩
 simp only[hgb]at hH⊢;have HH:=zq hH;have m2:wb.cell? ⟨w.heap.size+1,2,none⟩=some (.slice b.ap m.path.length b.cp):=(H1.out wb HBB.out).cell 2;clear hwb hH hgb HB1;go_wp2_with (first|(with_reducible refine ldZ 16 (H0.out wb HBB.out) ?_)|(with_reducible refine ldZ 19 HH.out ?_));refine(ron_any t a m.path b.ap m.path.length b.cp ⟨pe,pa,pr⟩ wb (HT.out _ HBB.out) HLT.out HCJ.out (HP.out _ HBB.out) HN.out).mono ?_;rw[HR.out];rintro e_ w2 ⟨rfl,hb2⟩;have HB2:=tB HBB hb2;clear hb2 m2;go_wp2;go_ret
 exact⟨rfl,HBWA.out.trans (HB2.out.mono HBWA.out.size)⟩
theorem rend17 (m:Ma3)(b:MaA)(w:World)(hs:SlO scC17 2 w b.aq m.sects.length b.cs m.sects)(hn:m.sects.length<=1048576):
  Calls Tryz.prog 27 #[.agg (maC m b)] w fun r w'=>r= .returned (.tuple #[.int .i64 (endM m),.int .i64 (endW m)])/\Below w.heap.size w w':=by
 obtain⟨wa,hwa,hbwa,HWA,HBWA,h0⟩:=bx1Z w 38 (maC m b);have HS:=zq (hs.under hbwa);have m3:wa.cell? ⟨w.heap.size,3,none⟩=some (.slice b.aq m.sects.length b.cs):=h0.cell 3;have m4:wa.cell? ⟨w.heap.size,4,none⟩=some (.int .i64 m.gap):=h0.cell 4;clear hwa hbwa h0 hs
 cases hl:m.sects.length with
 |zero=>
  have e1:endM m=0:=by unfold endM;rw[List.eq_nil_of_length_eq_zero hl];rfl
  have e2:endW m=m.gap:=by unfold endW;rw[if_pos hl]
  rw[hl]at m3;rw[e1,e2];generalize m.gap=g at*;clear e1 e2 hl HS;go_enter Tryz.func27,Tryz.ntmps27;go_upto_region 1 with fail;rw[HWA.out];go_upto_region 2 with fail;go_quiet (fail);go_wp2;go_ret2
  exact⟨rfl,qaa HBWA.out _⟩
 |succ k=>
  obtain⟨K,hK⟩:=geZ (m.sects.length);obtain⟨s,hk⟩: ∃s,m.sects[K-1]?=some s:=⟨_,List.getElem?_eq_getElem (by omega)⟩
  have e1:=end17 (i:=K-1) (by omega) hk;have e2:endW m=wrap64 (s.to_+m.gap):=by unfold endW;rw[if_neg (by omega),e1]
  rw[e1,e2];obtain⟨bk,off,ha,d0,-⟩:=HS.out.sect hk;rw[ha,hK]at m3;have hK1:1<=K:=by omega
  have hK2:K<=1048576:=by omega
  have y0: ¬(K:Int)=0:=by omega
  have y1:((K:Int)==0)=false:=by simp;omega
  have y3:(0:Int)<=(K:Int)-1:=by omega
  have y4:(K:Int)-1<K:=by omega
  have y5:((K:Int)-1).toNat=K-1:=by omega
  have y6:(1:Int)<=K:=by omega
  clear e1 e2 HS hk ha hl hK;generalize m.gap=g at*;generalize s.to_=to_ at*;go_enter Tryz.func27,Tryz.ntmps27;go_upto_region 1 with fail;rw[HWA.out];go_upto_region 4 with fail;go_quiet (fail);go_wp2;go_ret2
  exact⟨rfl,qaa HBWA.out _⟩
end
section
open Go.RowKit
open Go.Great
theorem behind_hi17 {t:Tp3}{m:Ma3}(hf:qcC m.path (stepP (qbf t m))=true)(hl: ∀s∈m.path,lenAt t s<=1000000):qa1 t m<=1000000:=by
 unfold qa1 onE;split
 ·rename_i hr
  split
  ·unfold qcC at hf
   cases hp:m.path with
   |nil=>rw[hp]at hf;cases hf
   |cons x r=>
    rw[hp]at hf;dsimp only at hf;rw[onGo,if_pos hf];have h1:=qbu.1 (qaQ.1 hr).2;have h2:=hl x (by rw[hp];exact List.mem_cons_self ..);have h3:0<=qaA t (qbf t m):=by
     unfold qaA;split
     ·exact h1.2.1
     ·have:=h1.2.2
      omega
    show 0+lenAt t x-qaA t (qbf t m)<=1000000
    omega
  ·show(0:Int)<=1000000
   omega
 ·show(0:Int)<=1000000
  omega
theorem sum_le17 {t:Tp3}{path:List St3}(h: ∀s∈path,0<=lenAt t s/\lenAt t s<=1000000):0<=sumT t path/\sumT t path<=path.length*1000000:=by
 induction path with
 |nil=>simp[sumT]
 |cons s r ih=>
  have h1:=h s (List.mem_cons_self ..);have h2:=ih fun u hu=>h u (List.mem_cons_of_mem _ hu);rw[List.length_cons];unfold sumT;omega
theorem secs_at17 {S:List Sc3}{i:Nat}{s:Sc3}(h:S[i]?=some s)(p:Int):secsB p (S.drop i)=(decide (p<s.to_) &&(decide (s.to_<=100000000) &&(decide (1<=s.timer) &&(decide (s.timer<=1000) &&secsB s.to_ (S.drop (i+1)))))):=by
 obtain⟨h1,e⟩:=List.getElem?_eq_some_iff.1 h;rw[List.drop_eq_getElem_cons h1,e,secsB]
theorem rmay17 (t:Tp3)(a:TpA)(m:Ma3)(b:MaA)(w:World)(ht:TopR w t a)(hl:qaJ t=true)(hcj:t.joints.length<=a.cj)(hm:MaR w m b)(hn:m.path.length<=1048576)(hk:m.sects.length<=1048576):
  Calls Tryz.prog 72 #[.agg (tpC t a),.agg (maC m b)] w fun r w'=>r= .returned (.bool (mayM t m))/\Below w.heap.size w w':=by
 obtain⟨wa,hwa,hbwa,HWA,HBWA,h0,h1⟩:=bx2Z w 27 (tpC t a) 38 (maC m b);have HT:=zq (fun W (hW:Below wa.heap.size wa W)=>(ht.under hbwa).under hW);have HM:=zq (fun W (hW:Below wa.heap.size wa W)=>(hm.under hbwa).under hW);have H0:=zH h0;have H1:=zH h1;have HLT:=zq hl;have HCJ:=zq hcj;have HNP:=zq hn;have HNK:=zq hk;have HNN:=zq (qav hl);obtain⟨p,hp⟩:=geZ (qbf t m);have HC:=zq (rplace17 t a m b wa (ht.under hbwa) hl);rw[hp]at HC;have HPR:=zq (show p.rev=m.rev from by rw[<-hp,place17]);have HPP:=zq hp;obtain⟨q,hq⟩:=geZ ((balF t m.ref).isSome);rw[hq]at HC;have HQ:=zq hq;obtain⟨R,hR⟩:=geZ (mayM t m);have HR:=zq (show R=true->MayM t m from fun h=>qb4.1 (hR.trans h));have HRT:=zq (show MayM t m->R=true from fun h=>hR.symm.trans (qb4.2 h));rw[hR];obtain⟨NP,hNP⟩: ∃n,m.path.length=n:=⟨_,rfl⟩
 obtain⟨NS,hNS⟩: ∃n,m.sects.length=n:=⟨_,rfl⟩
 have HLP:=zq hNP;have HLS:=zq hNS;clear hwa hbwa h0 h1 ht hl hcj hm hn hk hp hq hR;obtain⟨pe,pa,pr⟩:=p;unfold psA at HC;dsimp only at HC HPR;go_enter Tryz.func72,Tryz.ntmps72;go_upto_region 1 with fail;rw[HWA.out];clear HWA;go_wp2_with (first|(with_reducible refine ldZ 15 (H0.out wa (Below.refl _ _)) ?_)|(with_reducible refine ldZ 16 (H1.out wa (Below.refl _ _)) ?_));refine HC.out.mono ?_;rintro e_ w1 ⟨rfl,hb1⟩;have HB1:=zq hb1;clear hb1 HC;go_upto_region 2 with fail;obtain⟨wb,hwb⟩:=geZ (w1.alloc (.cells #[.int .i64 pe,.int .i64 pa,.bool pr] 51));rw[hwb];have HBB:=zq (show Below wa.heap.size wa wb from by rw[<-hwb];exact HB1.out.alloc HB1.out.size _);have hH:Has wb w1.heap.size 51 #[.int .i64 pe,.int .i64 pa,.bool pr]:=by rw[<-hwb];exact Has.made _ _ _
 obtain⟨gb,hgb⟩: ∃g,w1.heap.size=g:=⟨_,rfl⟩
 simp only[hgb]at hH⊢;have HP0:=zH hH;have HX:=zq (fun W (hW:Below wb.heap.size wb W)=>HBB.out.trans (hW.mono HBB.out.size));clear hwb hH hgb HB1;go_wp2_with (with_reducible refine ldZ 20 (H0.out wb HBB.out) ?_);refine(qeE t a wb (HT.out _ HBB.out) HLT.out HCJ.out).mono ?_;rintro e_ w2 ⟨rfl,hb2⟩;have HB2:=zq hb2;have HBF:=zq (HBWA.out.trans ((HX.out _ hb2).mono HBWA.out.size));have m2:w2.cell? ⟨w.heap.size+1,2,none⟩=some (.slice b.ap m.path.length b.cp):=(H1.out w2 (HX.out _ hb2)).cell 2;have m3:w2.cell? ⟨w.heap.size+1,3,none⟩=some (.slice b.aq m.sects.length b.cs):=(H1.out w2 (HX.out _ hb2)).cell 3;have m4:w2.cell? ⟨w.heap.size+1,4,none⟩=some (.int .i64 m.gap):=(H1.out w2 (HX.out _ hb2)).cell 4;rw[HLP.out]at m2;rw[HLS.out]at m3;obtain⟨gp,hgp⟩: ∃g,m.gap=g:=⟨_,rfl⟩
 rw[hgp]at m4;have HGP:=zq hgp;clear hb2 hgp;by_cases z0:qax t=0;rotate_left
 ·have q0:(qax t !=0)=true:=by simp[z0]
  have HF:Hid (R=false):=zq (Bool.eq_false_iff.2 fun h=>by have h_:=HR.out h;exact z0 h_.check);go_wp2;go_ret
  exact⟨by rw[HF.out];rfl,HBF.out⟩
 have HZ:=zq z0;rw[z0];clear z0
 cases q with
 |false=>
  have HF:Hid (R=false):=zq (Bool.eq_false_iff.2 fun h=>by have h_:=HR.out h;have:=h_.bal;rw[HQ.out]at this;cases this);go_wp2;go_ret
  exact⟨by rw[HF.out];rfl,HBF.out⟩
 |true=>
 by_cases z1:NP=0
 ·subst z1
  have HF:Hid (R=false):=zq (Bool.eq_false_iff.2 fun h=>by have h_:=HR.out h;have h2_:=h_.first;rw[List.eq_nil_of_length_eq_zero HLP.out]at h2_;cases h2_);go_wp2;go_ret
  exact⟨by rw[HF.out];rfl,HBF.out⟩
 have z1':((NP:Int)==0)=false:=by simp;omega
 have z1'': ¬(NP:Int)=0:=by omega
 by_cases z2:24<NP
 ·have z2':(24:Int)<NP:=by omega
  have HF:Hid (R=false):=zq (Bool.eq_false_iff.2 fun h=>by have h_:=HR.out h;have:=h_.few;have:=HLP.out;omega);go_wp2;go_ret
  exact⟨by rw[HF.out];rfl,HBF.out⟩
 have z2': ¬(24:Int)<NP:=by omega
 by_cases z3:NS=0
 ·subst z3
  have HF:Hid (R=false):=zq (Bool.eq_false_iff.2 fun h=>by have h_:=HR.out h;have:=h_.one;have:=HLS.out;omega);go_wp2;go_ret
  exact⟨by rw[HF.out];rfl,HBF.out⟩
 have z3':((NS:Int)==0)=false:=by simp;omega
 have z3'': ¬(NS:Int)=0:=by omega
 by_cases z4:8<NS
 ·have z4':(8:Int)<NS:=by omega
  have HF:Hid (R=false):=zq (Bool.eq_false_iff.2 fun h=>by have h_:=HR.out h;have:=h_.eight;have:=HLS.out;omega);go_wp2;go_ret
  exact⟨by rw[HF.out];rfl,HBF.out⟩
 have z4': ¬(8:Int)<NS:=by omega
 by_cases z5:gp<0
 ·skip
  have HF:Hid (R=false):=zq (Bool.eq_false_iff.2 fun h=>by have h_:=HR.out h;have:=h_.gap0;have:=HGP.out;omega);go_wp2;go_ret
  exact⟨by rw[HF.out];rfl,HBF.out⟩
 by_cases z6:100000000<gp
 ·skip
  have HF:Hid (R=false):=zq (Bool.eq_false_iff.2 fun h=>by have h_:=HR.out h;have:=h_.gap1;have:=HGP.out;omega);go_wp2;go_ret
  exact⟨by rw[HF.out];rfl,HBF.out⟩
 have HNUM:=zq (show(1<=NP/\NP<=24)/\(1<=NS/\NS<=8)/\0<=gp/\gp<=100000000 from by omega);obtain⟨x,hx⟩: ∃x,m.path[0]?=some x:=⟨_,List.getElem?_eq_getElem (by have:=HLP.out;omega)⟩
 have HFB:=zq (show∀s,qcC m.path s=eqS x s from fun s=>by unfold qcC;cases hq:m.path with|nil=>(rw[hq]at hx;simp at hx)|cons y r=>(rw[hq]at hx;simp at hx;rw[hx]));obtain⟨bk,off,hap,d0,d1⟩:=(HM.out w2 (HX.out _ HB2.out)).path.step hx;rw[Nat.zero_mul,Nat.add_zero]at d0 d1;rw[hap]at m2;clear hap;go_upto_region 4 with fail;clear z1 z1' z1'' z2 z2' z3 z3' z3'' z4 z4' z5 z6 m4;have m1:w2.cell? ⟨w.heap.size+1,1,none⟩=some (.bool m.rev):=(H1.out w2 (HX.out _ HB2.out)).cell 1;have p0:w2.cell? ⟨gb,0,none⟩=some (.int .i64 pe):=(HP0.out w2 HB2.out).cell 0;obtain⟨xe,xr⟩:=x;dsimp only at d0 d1;obtain⟨mr,hmr⟩: ∃r,m.rev=r:=⟨_,rfl⟩
 rw[hmr]at m1;have HMR:=zq (HPR.out.trans hmr);have y0:(0:Int)<NP:=by have:=HNUM.out;omega
 have y0':0<NP:=by have:=HNUM.out;omega
 clear hx hmr;by_cases u0:xe=pe;rotate_left
 ·have g0:(xe !=pe)=true:=by simp[u0]
  have g0':(xe==pe)=false:=by simp[u0]
  have HF:Hid (R=false):=zq (Bool.eq_false_iff.2 fun h=>by have h_:=HR.out h;have h2_:=h_.first;rw[HPP.out,HFB.out,qaI]at h2_;exact u0 (congrArg St3.edge h2_));go_quiet (fail);go_wp2;go_ret
  exact⟨by rw[HF.out];rfl,qaa HBF.out _⟩
 have g0:(xe !=pe)=false:=by simp[u0]
 have g0':(xe==pe)=true:=by simp[u0]
 by_cases u1:xr=mr;rotate_left
 ·have g1:(xr !=mr)=true:=by simp[u1]
  have g1':(xr==mr)=false:=by simp[u1]
  have HF:Hid (R=false):=zq (Bool.eq_false_iff.2 fun h=>by have h_:=HR.out h;have h2_:=h_.first;rw[HPP.out,HFB.out,qaI]at h2_;exact u1 ((congrArg St3.rev h2_).trans HMR.out));go_quiet (fail);go_wp2;go_ret
  exact⟨by rw[HF.out];rfl,qaa HBF.out _⟩
 have g1:(xr !=mr)=false:=by simp[u1]
 have g1':(xr==mr)=true:=by simp[u1]
 have HFST:=zq (show qcC m.path (stepP (qbf t m))=true from by rw[HFB.out,HPP.out,qaI];show(⟨xe,xr⟩:St3)=⟨pe,pr⟩;rw[u0,u1,HMR.out]);go_quiet (fail);obtain⟨w3,hw3⟩: ∃wd,w2.drewN nq=wd:=⟨_,rfl⟩
 rw[hw3];have HB3:=zq (show Below wb.heap.size wb w3 from by rw[<-hw3];exact qaa HB2.out _);clear hw3 m1 m2 m3 p0 d0 d1 y0 y0' u0 u1 g0 g0' g1 g1' HFB HB2 HBF;have m2:w3.cell? ⟨w.heap.size+1,2,none⟩=some (.slice b.ap NP b.cp):=by have h_:=(H1.out w3 (HX.out _ HB3.out)).cell 2;rw[<-HLP.out];exact h_
 have HPTH:=zq (fun W (hW:Below wb.heap.size wb W)=>(show SlO stC 2 W b.ap NP b.cp m.path from by rw[<-HLP.out];exact(HM.out W (HX.out _ hW)).path));have HSCT:=zq (fun W (hW:Below wb.heap.size wb W)=>(show SlO scC17 2 W b.aq NS b.cs m.sects from by rw[<-HLS.out];exact(HM.out W (HX.out _ hW)).sects));go_upto_region 6 with fail;go_wp2_with fail;refine(rtwice17 m.path b.ap NP b.cp w3 (HPTH.out _ HB3.out) (by have:=HNUM.out;omega)).mono ?_;rintro e_ w4 ⟨rfl,hb4⟩;have HB4:=tB HB3 hb4;clear hb4 m2 HB3;obtain⟨tw,htw⟩: ∃b,qa6 m.path=b:=⟨_,rfl⟩
 rw[htw];have HTW:=zq htw;clear htw;have m2:w4.cell? ⟨w.heap.size+1,2,none⟩=some (.slice b.ap NP b.cp):=by have h_:=(H1.out w4 (HX.out _ HB4.out)).cell 2;rw[<-HLP.out];exact h_
 go_upto_region 7 with fail;go_wp2_with (with_reducible refine ldZ 83 (H0.out w4 (HX.out _ HB4.out)) ?_);refine(rlength_n t a m.path b.ap NP b.cp w4 (HT.out _ (HX.out _ HB4.out)) (HPTH.out _ HB4.out) (by have:=HNUM.out;omega) (by have:=HNN.out.2.1;omega)).mono ?_;rintro e_ w5 ⟨N,rfl,hN,hb5⟩;have HB5:=tB HB4 hb5;have HNE:=zq (show N=lenN t m.path from hN (qaD HZ.out).1);have HBF:=zq (HBWA.out.trans ((HX.out _ HB5.out).mono HBWA.out.size));clear hb5 hN m2 HB4
 cases tw with
 |true=>
  have HF:Hid (R=false):=zq (Bool.eq_false_iff.2 fun h=>by have h_:=HR.out h;have h2_:=h_.once;rw[HTW.out]at h2_;cases h2_);go_wp2;go_ret
  exact⟨by rw[HF.out];rfl,HBF.out⟩
 |false=>
 by_cases z0:lenE t m.path=0;rotate_left
 ·have q0:(lenE t m.path !=0)=true:=by simp[z0]
  have HF:Hid (R=false):=zq (Bool.eq_false_iff.2 fun h=>by have h_:=HR.out h;exact z0 h_.len);go_wp2;go_ret
  exact⟨by rw[HF.out];rfl,HBF.out⟩
 have q0:(lenE t m.path !=0)=false:=by simp[z0]
 have HZL:=zq z0;have HNS_:=zq (show N=sumT t m.path from by rw[HNE.out];unfold lenN;rw[if_pos z0]);rw[z0]at q0⊢;clear z0;go_wp2;clear q0;go_loopg [10] NS (fun kk v10 wl=> ∃(i:Nat) (p:Int),i<=NS/\NS-i<=kk/\v10= .int .i64 i/\Hid (secsB 0 m.sects=secsB p (m.sects.drop i))/\Hid ((i=0/\p=0)\/ ∃s,1<=i/\m.sects[i-1]?=some s/\s.to_=p/\1<=p)/\Hid (Below wb.heap.size wb wl))
 case atStart=>exact⟨0,0,by omega,by omega,rfl,zq rfl,zq (.inl ⟨rfl,rfl⟩),HB5⟩
 clear HB5 HBF;obtain⟨i,p,hi,hik,rfl,HSB,HPV,HB⟩:=hrel;obtain⟨k1,hk1⟩: ∃k1,k1=gk:=⟨_,rfl⟩
 subst hk1;obtain⟨wv,hwv⟩: ∃wv,wv=wr:=⟨_,rfl⟩
 subst hwv;have m3:wv.cell? ⟨w.heap.size+1,3,none⟩=some (.slice b.aq NS b.cs):=by have h_:=(H1.out wv (HX.out _ HB.out)).cell 3;rw[<-HLS.out];exact h_
 have y2:(0:Int)<=i:=by omega
 by_cases hlt:i<NS;rotate_left
 ·obtain rfl:i=NS:=by omega
  have x1: ¬(i:Int)<i:=by omega
  have HSC:Hid (secsB 0 m.sects=true):=zq (by rw[HSB.out,List.drop_of_length_le (by rw[HLS.out];exact Nat.le_refl _)];rfl);clear hik hlt hi HSB HPV;go_upto_region 16 with fail;go_wp2_with (with_reducible refine ldZ 141 (H1.out wv (HX.out _ HB.out)) ?_);refine(rend17 m b wv (HM.out _ (HX.out _ HB.out)).sects HNK.out).mono ?_;rintro e_ w6 ⟨rfl,hb6⟩;have HB6:=tB HB hb6;clear hb6 HB;have HEW:=zq (show endW m=endM m+gp from by unfold endW;rw[if_neg (by have:=HNUM.out;have:=HLS.out;omega),HGP.out];exact IntWalk.wrap64_in _ (by have h1_:=secs_few (p:=0) (by decide) HSC.out;have h2_:=secs_last HSC.out;have h3_:=HNUM.out;have h4_:endM m=qbj 0 m.sects:=rfl;omega));rw[HEW.out];generalize hE:endM m=E at*;have HEE:=zq hE;clear hE;have HWN:=zq (way_nums HZL.out (qaD HZ.out).1);have HBD:=zq (show(0<=N/\N<=24000000)/\0<=qa1 t m/\qa1 t m<=1000000 from⟨by rw[HNS_.out];have h1_:=sum_le17 (t:=t) (path:=m.path) (fun s hs=>⟨by have:=(HWN.out s hs).2.1;omega,(HWN.out s hs).2.2⟩);have h2_:=HLP.out;have h3_:=HNUM.out;omega,behind_ok HFST.out,behind_hi17 HFST.out (fun s hs=>(HWN.out s hs).2.2)⟩);go_upto_region 17 with fail;go_wp2_with (first|(with_reducible refine ldZ 147 (H0.out w6 (HX.out _ HB6.out)) ?_)|(with_reducible refine ldZ 148 (H1.out w6 (HX.out _ HB6.out)) ?_));refine(rbehind17 t a m b w6 (HT.out _ (HX.out _ HB6.out)) HLT.out HCJ.out (HM.out _ (HX.out _ HB6.out)).path HNP.out).mono ?_;rintro e_ w7 ⟨rfl,hb7⟩;have HB7:=tB HB6 hb7;clear hb7 HB6;obtain⟨B,hB⟩:=geZ (qa1 t m);rw[hB]at HBD⊢;have HFIN:Hid (R=decide (E+gp<=N-B)):=zq (by
   cases hq:R with
   |true=>exact(decide_eq_true (by have h_:=(HR.out hq).fits;rw[HEE.out,HGP.out,hB,<-HNS_.out]at h_;exact h_)).symm
   |false=>exact(decide_eq_false (fun h_=>by have h2_:=HRT.out ⟨HZ.out,HQ.out,by have:=HNUM.out;have:=HLP.out;omega,by have:=HNUM.out;have:=HLS.out;omega,by have:=HNUM.out;have:=HLS.out;omega,by have:=HNUM.out;have:=HGP.out;omega,by have:=HNUM.out;have:=HGP.out;omega,HFST.out,HTW.out,HZL.out,HSC.out,by rw[HEE.out,HGP.out,hB,<-HNS_.out];exact h_⟩;rw[hq]at h2_;cases h2_)).symm)
  obtain⟨NB,hNB⟩: ∃z,N-B=z:=⟨_,rfl⟩
  have hw1:wrap64 (N-B)=NB:=by rw[IntWalk.wrap64_in _ (by have:=HBD.out;omega)];exact hNB
  rw[hNB]at HFIN;obtain⟨EG,hEG⟩: ∃z,E+gp=z:=⟨_,rfl⟩
  rw[hEG]at HFIN⊢;clear hB hNB hEG;by_cases v0:EG<=NB
  ·rw[decide_eq_true v0]at HFIN
   go_wp2;go_ret
   exact⟨by rw[HFIN.out];first|rfl|simp[v0],HBWA.out.trans ((HX.out _ HB7.out).mono HBWA.out.size)⟩
  ·rw[decide_eq_false v0]at HFIN
   go_wp2;go_ret
   exact⟨by rw[HFIN.out];first|rfl|simp[v0],HBWA.out.trans ((HX.out _ HB7.out).mono HBWA.out.size)⟩
 obtain⟨s,hs⟩: ∃s,m.sects[i]?=some s:=⟨_,List.getElem?_eq_getElem (by have:=HLS.out;omega)⟩
 have HXS:=zq hs;have HST:=zq (show secsB 0 m.sects=_ from HSB.out.trans (secs_at17 hs p));obtain⟨bs,os,haq,d0,d1⟩:=(HSCT.out wv HB.out).sect hs;rw[haq]at m3;have HAQ:=zq haq;clear hs haq HSB;obtain⟨sx,st⟩:=s;dsimp only at*;have x1:(i:Int)<NS:=by omega
 have HIN:=zq (show i<NS/\NS-i<=k1 from⟨hlt,hik⟩);go_upto_region 14 with fail;obtain⟨wc,hwc⟩:=geZ (wv.alloc (.cells #[.int .i64 sx,.int .i64 st] 66));rw[hwc];have HBC:=zq (show Below wb.heap.size wb wc from by rw[<-hwc];exact HB.out.alloc HB.out.size _);have hH:Has wc wv.heap.size 66 #[.int .i64 sx,.int .i64 st]:=by rw[<-hwc];exact Has.made _ _ _
 obtain⟨gs,hgs⟩: ∃g,wv.heap.size=g:=⟨_,rfl⟩
 simp only[hgs]at hH⊢;have c0:wc.cell? ⟨gs,0,none⟩=some (.int .i64 sx):=hH.cell 0;have c1:wc.cell? ⟨gs,1,none⟩=some (.int .i64 st):=hH.cell 1;clear hwc hH hgs d0 d1 m3 HB hlt hik hi x1;have HPP0:=zq (show 0<=p from by rcases HPV.out with⟨_,h_⟩|⟨_,_,_,_,h_⟩<;>omega);by_cases v0:sx<1
 ·have v0':decide (sx<1)=true:=decide_eq_true v0
  have HF:Hid (R=false):=zq (Bool.eq_false_iff.2 fun h=>by have h_:=HR.out h;have h2_:=h_.secs;rw[HST.out]at h2_;simp only[Bool.and_eq_true,decide_eq_true_eq]at h2_;have:=HPP0.out;omega);go_quiet (fail);go_wp2;go_ret
  exact⟨by rw[HF.out];rfl,qaa (HBWA.out.trans ((HX.out _ HBC.out).mono HBWA.out.size)) _⟩
 have v0':decide (sx<1)=false:=decide_eq_false v0;by_cases v1:100000000<sx
 ·have v1':decide (100000000<sx)=true:=decide_eq_true v1
  have HF:Hid (R=false):=zq (Bool.eq_false_iff.2 fun h=>by have h_:=HR.out h;have h2_:=h_.secs;rw[HST.out]at h2_;simp only[Bool.and_eq_true,decide_eq_true_eq]at h2_;have:=HPP0.out;omega);go_quiet (fail);go_wp2;go_ret
  exact⟨by rw[HF.out];rfl,qaa (HBWA.out.trans ((HX.out _ HBC.out).mono HBWA.out.size)) _⟩
 have v1':decide (100000000<sx)=false:=decide_eq_false v1;by_cases v2:st<1
 ·have v2':decide (st<1)=true:=decide_eq_true v2
  have HF:Hid (R=false):=zq (Bool.eq_false_iff.2 fun h=>by have h_:=HR.out h;have h2_:=h_.secs;rw[HST.out]at h2_;simp only[Bool.and_eq_true,decide_eq_true_eq]at h2_;have:=HPP0.out;omega);go_quiet (fail);go_wp2;go_ret
  exact⟨by rw[HF.out];rfl,qaa (HBWA.out.trans ((HX.out _ HBC.out).mono HBWA.out.size)) _⟩
 have v2':decide (st<1)=false:=decide_eq_false v2;by_cases v3:1000<st
 ·have v3':decide (1000<st)=true:=decide_eq_true v3
  have HF:Hid (R=false):=zq (Bool.eq_false_iff.2 fun h=>by have h_:=HR.out h;have h2_:=h_.secs;rw[HST.out]at h2_;simp only[Bool.and_eq_true,decide_eq_true_eq]at h2_;have:=HPP0.out;omega);go_quiet (fail);go_wp2;go_ret
  exact⟨by rw[HF.out];rfl,qaa (HBWA.out.trans ((HX.out _ HBC.out).mono HBWA.out.size)) _⟩
 have v3':decide (1000<st)=false:=decide_eq_false v3;have HV:=zq (show(1<=sx/\sx<=100000000)/\1<=st/\st<=1000 from by omega);clear v0 v1 v2 v3;by_cases y3:i=0
 ·have y4:decide ((0:Int)<(i:Int))=false:=by simp;omega
  have y5:decide (0<i)=false:=by simp;omega
  have y6: ¬0<i:=by omega
  have HSN:Hid (secsB 0 m.sects=secsB sx (m.sects.drop (i+1))):=zq (by have h2_:=HST.out;rw[decide_eq_true (show p<sx from by exact HPV.out.elim (fun h_=>by have:=HV.out;omega) (fun⟨_,h_,_⟩=>by omega)),decide_eq_true (show sx<=100000000 from by have:=HV.out;omega),decide_eq_true (show 1<=st from by have:=HV.out;omega),decide_eq_true (show st<=1000 from by have:=HV.out;omega)]at h2_;rw[h2_];rfl);clear y3;go_quiet (fail);obtain⟨wd,hwd⟩:=geZ (wc.drewN nq);rw[hwd];have HD:Hid (Below wb.heap.size wb wd):=zq (by rw[<-hwd];exact qaa HBC.out _);clear hwd c0 c1 v0' v1' v2' v3';go_wp2;go_roundg (k1-1)
  case measure=>have:=HIN.out;omega
  case rel=>exact⟨i+1,sx,by have:=HIN.out;omega,by have:=HIN.out;omega,by first|go_num|(rw[IntWalk.wrap64_in _ (by have h1_:=HIN.out;have h2_:=HNUM.out;omega)];go_num),HSN,zq (.inr ⟨_,by omega,HXS.out,rfl,by have:=HV.out;omega⟩),HD⟩
 obtain⟨ps,hps1,hps2,hps3⟩: ∃ps,1<=i/\m.sects[i-1]?=some ps/\ps.to_=p:=HPV.out.elim (fun h_=>absurd h_.1 y3) (fun⟨s_,h1_,h2_,h3_,_⟩=>⟨s_,h1_,h2_,h3_⟩);have d3:wc.cell? ⟨bs,os+(i-1)*2,none⟩=some (.int .i64 p):=by obtain⟨b_,o_,e_,e0,-⟩:=(HSCT.out wc HBC.out).sect hps2;rw[HAQ.out]at e_;injection e_ with e_;injection e_ with e1_ e2_ _;subst e1_ e2_;rw[<-hps3];exact e0
 have m3:wc.cell? ⟨w.heap.size+1,3,none⟩=some (.slice (some ⟨bs,os,none⟩) NS b.cs):=by have h_:=(H1.out wc (HX.out _ HBC.out)).cell 3;rw[<-HAQ.out,<-HLS.out];exact h_
 have y4:decide ((0:Int)<(i:Int))=true:=by simp;omega
 have y5:decide (0<i)=true:=by simp;omega
 have y6:0<i:=by omega
 have hw1:IntKind.i64.wrap ((i:Int)-1)=(i:Int)-1:=by rw[IntKind.wrap_i64];have h1_:=HIN.out;have h2_:=HNUM.out;omega
 have hw2:((i:Int)-1).toNat=i-1:=by omega
 have u1:(0:Int)<=(i:Int)-1:=by omega
 have u2:(i:Int)-1<NS:=by have:=HIN.out;omega
 have u3:(1:Int)<=(i:Int):=by omega
 clear hps1 hps2 hps3 y3;by_cases v4:sx<=p
 ·have v4':decide (sx<=p)=true:=decide_eq_true v4
  have HF:Hid (R=false):=zq (Bool.eq_false_iff.2 fun h=>by have h_:=HR.out h;have h2_:=h_.secs;rw[HST.out]at h2_;simp only[Bool.and_eq_true,decide_eq_true_eq]at h2_;have:=HPP0.out;omega);go_quiet (fail);go_wp2;go_ret
  exact⟨by rw[HF.out];rfl,qaa (HBWA.out.trans ((HX.out _ HBC.out).mono HBWA.out.size)) _⟩
 have v4':decide (sx<=p)=false:=decide_eq_false v4;have HSN:Hid (secsB 0 m.sects=secsB sx (m.sects.drop (i+1))):=zq (by have h2_:=HST.out;rw[decide_eq_true (show p<sx from by omega),decide_eq_true (show sx<=100000000 from by have:=HV.out;omega),decide_eq_true (show 1<=st from by have:=HV.out;omega),decide_eq_true (show st<=1000 from by have:=HV.out;omega)]at h2_;rw[h2_];rfl);go_quiet (fail);obtain⟨wd,hwd⟩:=geZ (wc.drewN nq);rw[hwd];have HD:Hid (Below wb.heap.size wb wd):=zq (by rw[<-hwd];exact qaa HBC.out _);clear hwd v4 v4' hw1 hw2 u1 u2 u3 d3 m3 c0 c1 v0' v1' v2' v3';go_wp2;go_roundg (k1-1)
 case measure=>have:=HIN.out;omega
 case rel=>exact⟨i+1,sx,by have:=HIN.out;omega,by have:=HIN.out;omega,by first|go_num|(rw[IntWalk.wrap64_in _ (by have h1_:=HIN.out;have h2_:=HNUM.out;omega)];go_num),HSN,zq (.inr ⟨_,by omega,HXS.out,rfl,by have:=HV.out;omega⟩),HD⟩
end
section
open Go.RowKit
open Go.Great
def lcA (s:Lc3):Array Value:=#[.int .i64 s.route,.int .i64 s.train,.int .i64 s.no]
def lcC (s:Lc3):List Value:=[.int .i64 s.route,.int .i64 s.train,.int .i64 s.no]
theorem qdL:(Tryz.prog.info? 73).map (fun i=>(i.zero,i.size,i.bytes))=some (some (.agg #[.int .i64 0,.int .i64 0,.int .i64 0]),3,24):=by kernel_rfl
theorem one_lc16 (s:Lc3): ∀u∈lcC s,u.oneCell'=true:=by
 intro u hu;simp only[lcC,List.mem_cons,List.not_mem_nil,or_false]at hu
 rcases hu with rfl|rfl|rfl<;>rfl
theorem SlO.lock {w:World}{A:Option Addr}{n c:Nat}{l:List Lc3}(h:SlO lcC 3 w A n c l){j:Nat}{x:Lc3}(hx:l[j]?=some x):
  ∃b off,A=some ⟨b,off,none⟩/\w.cell? ⟨b,off+j*3,none⟩=some (.int .i64 x.route)/\w.cell? ⟨b,off+j*3+1,none⟩=some (.int .i64 x.train)/\w.cell? ⟨b,off+j*3+2,none⟩=some (.int .i64 x.no):=by
 obtain⟨b,off,e,hc⟩:=h.at_ (fun _=>rfl) (by decide) hx;exact⟨b,off,e,hc 0 _ rfl,hc 1 _ rfl,hc 2 _ rfl⟩
theorem SlO.locks {w:World}{A:Option Addr}{n c:Nat}{l:List Lc3}(h:SlO lcC 3 w A n c l){j:Nat}{x:Lc3}(hx:l[j]?=some x):
  ∃b off,A=some ⟨b,off,none⟩/\ ∀W,Below w.heap.size w W->W.cell? ⟨b,off+j*3,none⟩=some (.int .i64 x.route)/\W.cell? ⟨b,off+j*3+1,none⟩=some (.int .i64 x.train)/\W.cell? ⟨b,off+j*3+2,none⟩=some (.int .i64 x.no):=by
 obtain⟨b,off,rfl,_⟩:=h.lock hx;refine⟨b,off,rfl,fun W hW=>?_⟩;obtain⟨b',o',e,h1⟩:=(h.under hW).lock hx;injection e with e
 injection e with e1 e2 _
 subst e1 e2;exact h1
def LkT (w:World)(A:Option Addr)(n c:Nat)(l:List Lc3):Prop:=SlO lcC 3 w A n c l/\n<=c/\ ∀ad,A=some ad-> ∃cs,Has w ad.block 73 cs
theorem LkT.under {w w':World}{A:Option Addr}{n c:Nat}{l:List Lc3}(h:LkT w A n c l)(hb:Below w.heap.size w w'):LkT w' A n c l:=⟨h.1.under hb,h.2.1,fun ad e=>by
 obtain⟨cs,hc⟩:=h.2.2 ad e;exact⟨cs,hc.u hb⟩⟩
theorem LkT.row {w:World}{A:Option Addr}{n c g:Nat}{l:List Lc3}{t:TypeId}{o:Array Value}(h:LkT w A n c l)(hg:Has w g t o)(hne:t≠73)(cs:Array Value):LkT (w.setRow g cs) A n c l:=by
 have hn: ∀ad,A=some ad->ad.block≠g:=fun ad e hb=>by
  obtain⟨cs,hc⟩:=h.2.2 ad e;rw[hb]at hc;exact Has.other hg hc hne rfl
 refine⟨⟨h.1.1,sl_row11 h.1.2 hn _⟩,h.2.1,fun ad e=>?_⟩;obtain⟨cs',hc⟩:=h.2.2 ad e;exact⟨cs',qae hc (hn ad e) _⟩
theorem LkT.of_own {w:World}{base:Nat}{A:Option Addr}{n c:Nat}{l:List Lc3}(h:OwR lcC 3 73 base w A n c l):LkT w A n c l:=⟨h.sl,h.cap,fun ad e=>by
 subst e;obtain⟨g,cur,rfl,_,hh,_⟩:=h.has;exact⟨cur,hh⟩⟩
theorem LkT.none (w:World):LkT w none 0 0 []:=⟨SlO.nil _ _ _,Nat.le_refl _,fun ad e=>by cases e⟩
/-! Extents are short. -/
end
section
open Go.RowKit
open Go.Great
theorem qed (s:St3): ∀u∈stC s,u.oneCell'=true:=by
 intro u hu;simp only[stC,List.mem_cons,List.not_mem_nil,or_false]at hu
 rcases hu with rfl|rfl<;>rfl
def isBool17:Value->Bool
 | .bool _=>true
 |_=>false
def noB17 (o:Array Value):Bool:=o.toList.all fun v=>!isBool17 v
theorem SlO.rowB17 {W:World}{A:Option Addr}{n c g:Nat}{l:List St3}{t:TypeId}{o:Array Value}(h:SlO stC 2 W A n c l)(hg:Has W g t o)(hb:noB17 o=true)(cs:Array Value):SlO stC 2 (W.setRow g cs) A n c l:=by
 cases l with
 |nil=>
  have h1:=h.1;rw[List.length_nil]at h1;subst h1;exact⟨rfl,rfl,h.2.2.1,fun ad e j u hu=>by simp at hu⟩
 |cons x r=>
  refine⟨h.1,sl_row11 h.2 (fun ad e hb2=>?_) _⟩;have h1:=h.2.2.2 ad e 1 (.bool x.rev) (by rw[List.flatMap_cons];rfl);obtain⟨b,off,e2,hc⟩:=h.at_ (fun _=>rfl) (by decide) (j:=0) (x:=x) rfl;rw[e]at e2;injection e2 with e2
  subst e2;have h2:=hc 1 _ rfl;subst hb2;rw[hg.cell]at h2;unfold noB17 at hb;rw[List.all_eq_true]at hb;have h3:=hb (.bool x.rev) (by
   rw[Array.mem_toList_iff];exact Array.mem_of_getElem? h2)
  cases h3
theorem pathR_of {t:Tp3}{id:Int}:pathR t id=(qbd t id).path:=by
 unfold pathR qbd
 cases qaR t id<;>rfl
theorem qbI {t:Tp3}(hl:qaJ t=true)(id:Int):(pathR t id).length<=100:=by
 unfold pathR
 cases hq:qaR t id with
 |none=>simp
 |some r=>exact(qav hl).2.2.2.2 r (List.mem_of_find?_eq_some hq)
theorem way_few17 {t:Tp3}(hl:qaJ t=true)(l:List Lc3):(wayC t l).length<=100*l.length:=by
 induction l with
 |nil=>simp[wayC]
 |cons k r ih=>
  have h1:=qbI hl k.route;unfold wayC at ih⊢;rw[List.flatMap_cons,List.length_append,List.length_cons];omega
theorem qeN {W:World}{base gx k c:Nat}{l:List St3}{s:St3}(h:OwR stC 2 30 base W (some ⟨gx,0,none⟩) k c l)(hs:l[k-1]?=some s):W.cell? ⟨gx,(k-1)*2,none⟩=some (.int .i64 s.edge)/\W.cell? ⟨gx,(k-1)*2+1,none⟩=some (.bool s.rev):=by
 have h0:=h.sl.at_cell (fun _=>rfl) (by decide) hs (i:=0) rfl;have h1:=h.sl.at_cell (fun _=>rfl) (by decide) hs (i:=1) rfl;simp only[Nat.zero_add,Nat.add_zero]at h0 h1;exact⟨h0,h1⟩
end
section
open Go.RowKit
theorem ret_pair {a b x:Int}(h:a=b):Ending.returned (.tuple #[.int .i64 a,.int .i64 x])= .returned (pair (b,x)):=by rw[h];rfl
theorem qdC (dm s:Int)(up:Bool)(w:World):
  Calls Tryz.prog 87 #[.int .i64 dm,.int .i64 s,.bool up] w fun e w'=>e= .returned (pair (qaW dm s up))/\w=w':=by
 have hu:=qcN s;have c:=unit_any s w;rw[qaW];generalize qaS s=u at*;have C:=zq c;clear c;by_cases h0:u=0
 ·subst h0
  rw[if_pos rfl];clear hu;go_enter Tryz.func87,Tryz.ntmps87;go_wp2_with fail;refine C.out.mono ?_;rintro e w' ⟨rfl,rfl⟩;go_wp2;go_ret2
  exact⟨rfl,rfl⟩
 ·rw[if_neg h0]
  by_cases hn:dm<0\/1099511627776<dm
  ·rw[if_pos hn]
   obtain h|⟨g,h⟩:dm<0\/(¬dm<0/\1099511627776<dm):=by omega
   ·clear hu hn
    go_enter Tryz.func87,Tryz.ntmps87;go_wp2_with fail;refine C.out.mono ?_;rintro e w' ⟨rfl,rfl⟩;go_wp2;go_ret2
    exact⟨rfl,rfl⟩
   ·clear hu hn
    go_enter Tryz.func87,Tryz.ntmps87;go_wp2_with fail;refine C.out.mono ?_;rintro e w' ⟨rfl,rfl⟩;go_wp2;go_ret2
    exact⟨rfl,rfl⟩
  ·rw[if_neg hn]
   obtain⟨h1,h2⟩: ¬dm<0/\ ¬1099511627776<dm:=by omega
   have q0:Int.tdiv dm u=dm/u:=Int.tdiv_eq_ediv_of_nonneg (by omega);have r0:Int.tmod dm u=dm %u:=Int.tmod_eq_emod_of_nonneg (by omega);obtain⟨q,hq⟩:=geZ (dm/u);obtain⟨r,hr⟩:=geZ (dm %u);have hq1:0<=q/\q<=1099511627776:=by
    rcases hu with rfl|rfl|rfl|rfl<;>omega
   have e1:wrap64 q=q:=IntWalk.wrap64_in _ (by omega);have e2:wrap64 (q+1)=q+1:=IntWalk.wrap64_in _ (by omega);have hr1:wrap64 r=r:=IntWalk.wrap64_in _ (by rcases hu with rfl|rfl|rfl|rfl<;>omega);rw[wholeOf,hq,hr];rw[hq]at q0;rw[hr]at r0;clear hu hn hq hr hq1
   cases up
   ·simp only[Bool.false_eq_true,false_and,if_false,Int.add_zero]
    by_cases hf:32766<q
    ·rw[if_pos hf]
     go_enter Tryz.func87,Tryz.ntmps87;go_wp2_with fail;refine C.out.mono ?_;rintro e w' ⟨rfl,rfl⟩;go_wp2;go_ret2
     exact⟨rfl,rfl⟩
    ·rw[if_neg hf]
     go_enter Tryz.func87,Tryz.ntmps87;go_wp2_with fail;refine C.out.mono ?_;rintro e w' ⟨rfl,rfl⟩;go_wp2;go_ret2
     exact⟨ret_pair e1,rfl⟩
   ·by_cases hz:r=0
    ·subst hz
     simp only[ne_eq,not_true,and_false,if_false,Int.add_zero];by_cases hf:32766<q
     ·rw[if_pos hf]
      go_enter Tryz.func87,Tryz.ntmps87;go_wp2_with fail;refine C.out.mono ?_;rintro e w' ⟨rfl,rfl⟩;go_wp2;go_ret2
      exact⟨rfl,rfl⟩
     ·rw[if_neg hf]
      go_enter Tryz.func87,Tryz.ntmps87;go_wp2_with fail;refine C.out.mono ?_;rintro e w' ⟨rfl,rfl⟩;go_wp2;go_ret2
      exact⟨ret_pair e1,rfl⟩
    ·have hz1:(r !=0)=true:=by simp[hz]
     simp only[ne_eq,hz,not_false_eq_true,and_self,if_true];by_cases hf:32766<q+1
     ·rw[if_pos hf]
      go_enter Tryz.func87,Tryz.ntmps87;go_wp2_with fail;refine C.out.mono ?_;rintro e w' ⟨rfl,rfl⟩;go_wp2;go_ret2
      exact⟨rfl,rfl⟩
     ·rw[if_neg hf]
      go_enter Tryz.func87,Tryz.ntmps87;go_wp2_with fail;refine C.out.mono ?_;rintro e w' ⟨rfl,rfl⟩;go_wp2;go_ret2
      exact⟨ret_pair e2,rfl⟩
end
section
open Go.RowKit
def qb3 (dm:Int)(s:Nat):Int:=
 if 3<=s then -1 else if(qaW dm s true).2=0 then s else qb3 dm (s+1)
termination_by 3-s
theorem qeL (dm:Int)(s:Nat)(h:3<=s):qb3 dm s= -1:=by rw[qb3,if_pos h]
theorem qcR (dm:Int)(s:Nat)(h:s<3):qb3 dm s=if(qaW dm s true).2=0 then(s:Int)else qb3 dm (s+1):=by rw[qb3,if_neg (by omega)]
theorem bestFrom_zero (dm:Int):qb3 dm 0=qdX dm:=by
 rw[qcR _ _ (by omega),qcR _ _ (by omega),qcR _ _ (by omega),qeL _ _ (by omega)]
 rfl
theorem best_any (dm:Int)(w:World):
  Calls Tryz.prog 29 #[.int .i64 dm] w fun e w'=>e= .returned (.int .i64 (qdX dm))/\w=w':=by
 rw[<-bestFrom_zero];obtain⟨B,hB⟩:=geZ (qb3 dm 0);rw[hB];have C:=zq (fun s=>qdC dm s true w);go_enter Tryz.func29,Tryz.ntmps29;go_wp2;go_loop [6] (fun i=> ∃k:Nat,k<=3/\i= .int .i64 k/\qb3 dm k=B) (fun i=>3-(intOf i).toNat)
 case atStart=>exact⟨0,by omega,rfl,hB⟩
 obtain⟨k,hk,rfl,hf⟩:=hrel;clear hB;by_cases hlt:k<3
 ·rw[qcR _ _ hlt]at hf
  have c:=C.out k;generalize qaW dm k true=R at*;obtain⟨n,x⟩:=R;by_cases hx:x=0
  ·rw[if_pos hx]at hf
   subst hf;subst hx;go_wp2_with fail;refine c.mono ?_;rintro e w' ⟨rfl,rfl⟩;simp only[pair];go_wp2;go_ret
   exact⟨rfl,rfl⟩
  ·rw[if_neg hx]at hf
   have HF:=zq hf;clear hf;have hx1:(x==0)=false:=by simp[hx]
   go_wp2_with fail;refine c.mono ?_;rintro e w' ⟨rfl,rfl⟩;simp only[pair];go_wp2;go_round
   case rel=>exact⟨k+1,by omega,by go_num,HF.out⟩
   case measure=>simp[intOf];omega
 ·rw[qeL _ _ (by omega)]at hf
  subst hf;go_wp2;go_ret
  exact⟨rfl,rfl⟩
end
end Go.Proofs.YtahadmeilajdgaaGreatDoor
