/-
  Our own text, joined.
-/
import Derived.Test.YtahadmeilajdgaaGreatDoorMtae
import Derived.BigQuiet
import Derived.Test.YtahadmeilajdgaaGreatDoorMtaa
import Derived.IntWalk
import Derived.Test.YtahadmeilajdgaaGreatDoorMtac
import Derived.RangeFuncNested
import Derived.RangeFuncBound
import Derived.RangeFuncCalls
import Derived.RangeFuncLeaves
import Derived.RangeFuncBox
import Derived.Sort.MapsRangeIn
import Derived.Shelf.Abstract
import Derived.Shelf.AbstractIn
import Derived.Shelf.RegionOpen
import Derived.OwnWalkIn
import Derived.TacticsInMore
import Derived.RegionIn
import Derived.LoopNIn
import Derived.LoopIn
import Derived.Test.YtahadmeilajdgaaGreatDoorMtab
import Derived.ProofKit
import Derived.OpenShut
import Derived.Deep.Slices
import Derived.Lib.SmallJoins
import Derived.ChangeArms
namespace Go.Proofs.YtahadmeilajdgaaGreatDoor
set_option maxRecDepth 100000
set_option maxHeartbeats 8000000
section
open Go.RowKit
open Go.Great
def folJ (t:Tp3)(s x:St3)(j:Jt3):Bool:=connB t j &&((eqS (lvS j.a) s &&eqS (enS j.b) x)||(eqS (lvS j.b) s &&eqS (enS j.a) x))
def folUp (t:Tp3)(s:St3)(i:Nat)(x:St3):Bool:=(t.joints.take i).any (folJ t s x)
def folB (t:Tp3)(s x:St3):Bool:=t.joints.any (folJ t s x)
theorem folUp_succ {t:Tp3}{s:St3}{i:Nat}{j:Jt3}(hj:t.joints[i]?=some j)(x:St3):folUp t s (i+1) x=(folUp t s i x||folJ t s x j):=by
 unfold folUp;rw[List.take_add_one,hj,List.any_append];simp
theorem folUp_all {t:Tp3}{s:St3}{i:Nat}(h:t.joints.length<=i)(x:St3):folUp t s i x=folB t s x:=by
 unfold folUp folB;rw[List.take_of_length_le h]
theorem conn_wf {t:Tp3}{j:Jt3}(h:connB t j=true)(hl:t.edges.length<=100):wfS (enS j.a)/\wfS (enS j.b):=by
 unfold connB endB at h;simp only[Bool.and_eq_true]at h;exact⟨wfS_of (s:=enS j.a) h.1.1 hl,wfS_of (s:=enS j.b) h.2.1 hl⟩
theorem otfol_any (t:Tp3)(a:TpA)(s:St3)(w:World)(ht:TopR w t a)(hl:t.edges.length<=100)(hj:t.joints.length<=1048576):
  Calls Tryz.prog 96 #[.agg (tpC t a),.agg (stA13 s)] w fun e w'=> ∃(bm n:Nat) (D:DataW Unit),e= .returned (.map (some bm))/\n<=2*t.joints.length/\Hid (w'.ownsMap Tryz.prog 30 (plainElem Tryz.prog 4) bm n D)/\Hid (SetM D (folB t s))/\Hid (w.heap.size<=bm)/\Below w.heap.size w w':=by
 obtain⟨wa,hwa,hbwa,HWA,HBWA,h0,h1⟩:=bx2Z w 27 (tpC t a) 30 (stA13 s);have HSZ:Hid (wa.heap.size=w.heap.size+2):=zq (by rw[<-hwa];simp);have HT:=zq ht;have H0:=zq h0;have H1:=zq h1;obtain⟨nj,hnj⟩: ∃n,t.joints.length=n:=⟨_,rfl⟩
 have HNJ:=zq hnj;have HL:=zq hl;rw[hnj]at hj⊢;clear hwa hbwa h0 h1 ht hnj hl;have hmm:= @run_makeMap Tryz.prog;go_enter Tryz.func96,Tryz.ntmps96;go_upto_region 1 with fail;rw[HWA.out];clear HWA;go_upto_region 2 with fail;obtain⟨bm,hbm⟩:=geZ (wa.heap.size);obtain⟨wm,hwm⟩:=geZ (wa.alloc (.map #[] 0));rw[hwm,hbm];clear hmm;have ho:wm.ownsMap Tryz.prog 30 (plainElem Tryz.prog 4) bm 0 (.map []:DataW Unit):=by rw[<-hwm,<-hbm];exact World.ownsMap_made _ _ _ _
 have hbmm:Below wa.heap.size wa wm:=by rw[<-hwm];exact bA
 have HBM:=tB HBWA hbmm;have HM0:=uH H0 hbmm;have HM1:=uH H1 hbmm;have HBE:Hid (bm=w.heap.size+2):=zq (by rw[<-hbm];exact HSZ.out);have HMS:Hid (wm.heap.size=bm+1):=zq (by rw[<-hwm,<-hbm];simp);have HO:=zq ho;obtain⟨AJ,hAJ⟩: ∃A,a.aj=A:=⟨_,rfl⟩
 have HTJ:Hid (SlO jtC 4 w AJ nj a.cj t.joints):=zq (by rw[<-hAJ,<-HNJ.out];exact HT.out.j);have c1:wm.cell? ⟨w.heap.size,1,none⟩=some (.slice AJ nj a.cj):=by rw[<-HNJ.out,<-hAJ];exact HM0.out.cell 1
 clear hAJ;clear ho hbmm hwm hbm H0 H1 HBWA HSZ;go_wp2;go_loopg [12] nj (fun kk v wl=> ∃(i n:Nat) (D:DataW Unit),i<=nj/\nj-i<=kk/\v= .int .i64 i/\n<=2*i/\Hid (wl.ownsMap Tryz.prog 30 (plainElem Tryz.prog 4) bm n D)/\Hid (SetM D (folUp t s i))/\Hid (wm.grownBy wl (some bm)))
 case atStart=>exact⟨0,0,.map [],by omega,by omega,rfl,by omega,HO,zq (SetM.empty.is fun x=>by unfold folUp;rw[List.take_zero];rfl),zq (qa3 _ _)⟩
 obtain⟨i,n,D,hi,hik,rfl,hn,HOW,HSE,HG⟩:=hrel;clear HO c1;obtain⟨w0,hw0⟩: ∃w0,w0=wr:=⟨_,rfl⟩
 subst hw0;have HBL:Hid (Below w.heap.size w w0):=zq (qaj HBM.out HG.out HBM.out.size (by have:=HBE.out;omega));by_cases hlt:i<nj;rotate_left
 ·have y1: ¬(i:Int)<nj:=by omega
  have HSF:Hid (SetM D (folB t s)):=zq (HSE.out.is fun x=>folUp_all (by rw[HNJ.out];omega) x);have HLE:Hid (w.heap.size<=bm):=zq (by have:=HBE.out;omega);have hnn:n<=2*nj:=by omega
  go_wp2;go_ret
  exact⟨bm,rfl,n,hnn,D,HOW,HSF,HLE,HBL.out⟩
 obtain⟨j,hj'⟩: ∃j,t.joints[i]?=some j:=⟨_,List.getElem?_eq_getElem (by rw[HNJ.out];exact hlt)⟩
 have HFS:=zq (fun x=>folUp_succ (s:=s) hj' x);obtain⟨bk,off,rfl,d0,d1,d2,d3⟩:=(HTJ.out.under HBL.out).joint hj';have y0:(0:Int)<=i:=by omega
 have y1:(i:Int)<nj:=by omega
 obtain⟨cn,hcn⟩: ∃b,connB t j=b:=⟨_,rfl⟩
 obtain⟨p1,hp1⟩: ∃b,eqS (lvS j.a) s=b:=⟨_,rfl⟩
 obtain⟨p2,hp2⟩: ∃b,eqS (lvS j.b) s=b:=⟨_,rfl⟩
 have q1:=eql_st13 (lvS j.a) s;have q2:=eql_st13 (lvS j.b) s;rw[hp1]at q1;rw[hp2]at q2;have HFJ:Hid (∀x,folJ t s x j=(cn &&((p1 &&eqS (enS j.b) x)||(p2 &&eqS (enS j.a) x)))):=zq fun x=>by unfold folJ;rw[hcn,hp1,hp2]
 have HWF:Hid (cn=true->wfS (enS j.a)/\wfS (enS j.b)):=zq fun h=>conn_wf (by rw[hcn];exact h) HL.out;have HCN:=zq (fun W=>qgs t a j W HL.out);rw[hcn]at HCN;clear hcn hp1 hp2 hj';obtain⟨⟨j1,j2⟩,⟨j3,j4⟩⟩:=j;unfold jtA at HCN;dsimp only at*;have HL1:=zq (fun W=>otlv_any (j1,j2) W);have HL2:=zq (fun W=>otlv_any (j3,j4) W);have HE1:=zq (fun W=>oten_any (j3,j4) W);have HE2:=zq (fun W=>oten_any (j1,j2) W);unfold endA at HL1 HL2 HE1 HE2;dsimp only at HL1 HL2 HE1 HE2;go_upto_region 5 with fail;obtain⟨wb,hwb⟩:=geZ (w0.alloc (.cells #[.int .i64 j1,.int .i64 j2,.int .i64 j3,.int .i64 j4] 149));rw[hwb];have hbb:Below w0.heap.size w0 wb:=by rw[<-hwb];exact bA
 have hX:Has wb w0.heap.size 149 #[.int .i64 j1,.int .i64 j2,.int .i64 j3,.int .i64 j4]:=by rw[<-hwb];exact Has.made _ _ _
 have HBB:=zq hbb;have HX:=zq hX;have HLT:Hid (bm<w0.heap.size):=zq HOW.out.lt;have HK0:=zq ((HM0.out.grow HG.out (by have:=HBE.out;intro e;injection e with e;omega)).under hbb (HM0.out.grow HG.out (by have:=HBE.out;intro e;injection e with e;omega)).lt);have HK1:=zq ((HM1.out.grow HG.out (by have:=HBE.out;intro e;injection e with e;omega)).under hbb (HM1.out.grow HG.out (by have:=HBE.out;intro e;injection e with e;omega)).lt);clear hwb hbb hX d0 d1 d2 d3;go_wp2_with (first|(with_reducible refine ldZ 16 HK0.out ?_)|(with_reducible refine ldZ 17 HX.out ?_));refine(HCN.out _).mono ?_;rintro e w2 ⟨rfl,hb2⟩;have HX2:=uH HX hb2;have HS2:=uH HK1 hb2;have HB2:=tB HBB hb2;clear hb2 HK0 HK1 HX HBB HCN
 cases cn with
 |false=>
  have HO2:Hid (w2.ownsMap Tryz.prog 30 (plainElem Tryz.prog 4) bm n D):=zq (HOW.out.kept (qaK HB2.out (Nat.le_refl _) none) (by simp));have HG2:Hid (wm.grownBy w2 (some bm)):=zq (qam HG.out (qaK HB2.out (Nat.le_refl _) _));have HSN:Hid (SetM D (folUp t s (i+1))):=zq (HSE.out.is fun x=>by rw[HFS.out,HFJ.out];simp);clear q1 q2;go_wp2;go_roundg (gk-1)
  case measure=>omega
  case rel=>exact⟨i+1,n,D,by omega,by omega,by go_num,by omega,HO2,HSN,HG2⟩
 |true=>
  have HWE:=zq (HWF.out (by first|rfl|trivial));clear HWF;go_upto_region 6 with fail;have H8:=zq (⟨HX2.out,HS2.out⟩:_/\_);clear HX2 HS2;refine wp_region_held_drew (S:=(fun W_=>Has W_ (w0.heap.size) 149 #[.int .i64 j1,.int .i64 j2,.int .i64 j3,.int .i64 j4]/\Has W_ (w.heap.size+1) 30 (stA13 s)/\Below w2.heap.size w2 W_)) (by kernel_rfl) ?_ (fun hHeld=>?_)
  ·exact⟨H8.out.1.draw,H8.out.2.draw,qaf (Below.refl _ _)⟩
  refine tkZ 0 20 (h:=?_);simp only[lyZ];refine tqZ 1 21 (fun w_ hSw=>And.intro ((show w_.cell? ⟨w0.heap.size,0,none⟩=some (.int .i64 j1:Value)from hSw.1.cell 0)) ((show w_.cell? ⟨w0.heap.size,1,none⟩=some (.int .i64 j2:Value)from hSw.1.cell 1))) (h:=?_);simp only[lyZ];refine tlZ 3 23 (w.heap.size+1) (stA13 s) (fun _ ⟨_,h_,_⟩=>h_) (h:=?_);simp only[lyZ];refine rdZ [2] ?_;refine acZ (some 22) (fun K hK=>?_) ?_
  ·go_simp
   obtain⟨s0,s1,s2⟩:=hHeld;refine(HL1.out _).mono ?_;rintro e_ v3 ⟨rfl,hbs⟩;go_wp2_with fail;refine hK.out _ _ ?_ (fun hHeld=>?_)
   ·exact⟨s0.u hbs,s1.u hbs,bu s2 hbs⟩
   clear hK K s0 s1 s2
   try simp only[lyZ]
   refine wpAnyH_take (i:=4) (oi:=⟨some 24,_,_,_,_,_⟩) (v:= .bool p1) rfl (by kernel_rfl) (by kernel_rfl) (by kernel_rfl) (fun _ _ _ h=>h) (qbw .eql 30 _ _ _ rfl _ _ rfl rfl qcD _ q1 (by rfl)) (by assumption) ?_;simp only[lyZ];refine dnZ ?_;have H3:=zq hHeld;clear hHeld H8;have HB3:=zq (HB2.out.trans (H3.out.2.2.mono HB2.out.size));have HO3:Hid (v3.ownsMap Tryz.prog 30 (plainElem Tryz.prog 4) bm n D):=zq (HOW.out.kept (qaK HB3.out (Nat.le_refl _) none) (by simp));have HG3:Hid (wm.grownBy v3 (some bm)):=zq (qam HG.out (qaK HB3.out (Nat.le_refl _) _));clear HOW HG HB2
   cases p1 with
   |false=>
    have HS8:Hid (SetM D fun x=>folUp t s i x||(false &&eqS (enS (j3,j4)) x)):=zq (HSE.out.is fun x=>by simp);have H8:=zq (⟨H3.out.1,H3.out.2.1⟩:_/\_);have hn8:n<=2*i+1:=by omega
    obtain⟨v8,hv8⟩: ∃v,v=v3:=⟨_,rfl⟩
    subst hv8;obtain⟨n8,hne⟩: ∃n',n'=n:=⟨_,rfl⟩
    subst hne;obtain⟨D8,hde⟩: ∃D',D'=D:=⟨_,rfl⟩
    subst hde;have HO8:=HO3;have HG8:=HG3;clear HO3 HG3 H3 HSE HB3;go_upto_region 8 with fail;refine wp_region_held_drew (S:=(fun W_=>Has W_ (w0.heap.size) 149 #[.int .i64 j1,.int .i64 j2,.int .i64 j3,.int .i64 j4]/\Has W_ (w.heap.size+1) 30 (stA13 s)/\Below v8.heap.size v8 W_)) (by kernel_rfl) ?_ (fun hHeld=>?_)
    ·exact⟨H8.out.1.draw,H8.out.2.draw,qaf (Below.refl _ _)⟩
    refine tkZ 0 29 (h:=?_);simp only[lyZ];refine tqZ 1 30 (fun w_ hSw=>And.intro ((show w_.cell? ⟨w0.heap.size,2,none⟩=some (.int .i64 j3:Value)from hSw.1.cell 2)) ((show w_.cell? ⟨w0.heap.size,3,none⟩=some (.int .i64 j4:Value)from hSw.1.cell 3))) (h:=?_);simp only[lyZ];refine tlZ 3 32 (w.heap.size+1) (stA13 s) (fun _ ⟨_,h_,_⟩=>h_) (h:=?_);simp only[lyZ];refine rdZ [2] ?_;refine acZ (some 31) (fun K hK=>?_) ?_
    ·go_simp
     obtain⟨s0,s1,s2⟩:=hHeld;refine(HL2.out _).mono ?_;rintro e_ v7 ⟨rfl,hbs⟩;go_wp2_with fail;refine hK.out _ _ ?_ (fun hHeld=>?_)
     ·exact⟨s0.u hbs,s1.u hbs,bu s2 hbs⟩
     clear hK K s0 s1 s2
     try simp only[lyZ]
     refine wpAnyH_take (i:=4) (oi:=⟨some 33,_,_,_,_,_⟩) (v:= .bool p2) rfl (by kernel_rfl) (by kernel_rfl) (by kernel_rfl) (fun _ _ _ h=>h) (qbw .eql 30 _ _ _ rfl _ _ rfl rfl qcD _ q2 (by rfl)) (by assumption) ?_;simp only[lyZ];refine dnZ ?_;have H9:=zq hHeld;clear hHeld H8;have HO9:Hid (v7.ownsMap Tryz.prog 30 (plainElem Tryz.prog 4) bm n8 D8):=zq (HO8.out.kept (qaK H9.out.2.2 (Nat.le_refl _) none) (by simp));have HG9:Hid (wm.grownBy v7 (some bm)):=zq (qam HG8.out (qaK H9.out.2.2 (Nat.le_refl _) _));clear HO8 HG8
     cases p2 with
     |false=>
      have HSN:Hid (SetM D8 (folUp t s (i+1))):=zq (HS8.out.is fun x=>by rw[HFS.out,HFJ.out];simp);clear q1 q2;go_wp2;go_roundg (gk-1)
      case measure=>omega
      case rel=>exact⟨i+1,n8,D8,by omega,by omega,by go_num,by omega,HO9,HSN,HG9⟩
     |true=>
      have e0:v7.cell? ⟨w0.heap.size,0,none⟩=some (.int .i64 j1):=H9.out.1.cell 0;have e1:v7.cell? ⟨w0.heap.size,1,none⟩=some (.int .i64 j2):=H9.out.1.cell 1;clear q1 q2;go_wp2_with fail;refine(HE2.out _).mono ?_;rintro e v10 ⟨rfl,hb10⟩;have HO10:Hid (v10.ownsMap Tryz.prog 30 (plainElem Tryz.prog 4) bm n8 D8):=zq (HO9.out.kept (qaK hb10 (Nat.le_refl _) none) (by simp));have HG10:Hid (wm.grownBy v10 (some bm)):=zq (qam HG9.out (qaK hb10 (Nat.le_refl _) _));clear hb10 e0 e1 HO9 HG9 H9;have hmx:n8<maxLen:=by unfold maxLen;omega
      go_wp2_with (at_mapUpdate;refine wpList_mapUpdate_own _ rfl _ _ _ 143 rfl 30 4 qda Tryz.underlying143 (plainElem Tryz.prog 4) bm n8 D8 rfl HO10.out hmx _ _ (stK (enS (j1,j2))) rfl rfl (qcX HWE.out.1) (.lit (.bool true)) [] (plainElem_bool Tryz.underlying4 true) ?_;intro v11 ho11 hg11);have HG11:Hid (wm.grownBy v11 (some bm)):=zq (qam HG10.out hg11);have HO11:=zq ho11;have HSN:Hid (SetM (D8.put (stK (enS (j1,j2))) (.lit (.bool true))) (folUp t s (i+1))):=zq ((HS8.out.put HWE.out.1).is fun x=>by rw[HFS.out,HFJ.out];first|(simp;done)|(simp[Bool.or_assoc];done));clear ho11 hg11;go_roundg (gk-1)
      case measure=>omega
      case rel=>exact⟨i+1,n8+1,_,by omega,by omega,by go_num,by omega,HO11,HSN,HG11⟩
    exact AllReadyH.nil
   |true=>
    have e0:v3.cell? ⟨w0.heap.size,2,none⟩=some (.int .i64 j3):=H3.out.1.cell 2;have e1:v3.cell? ⟨w0.heap.size,3,none⟩=some (.int .i64 j4):=H3.out.1.cell 3;go_wp2_with fail;refine(HE1.out _).mono ?_;rintro e v4 ⟨rfl,hb4⟩;have HO4:Hid (v4.ownsMap Tryz.prog 30 (plainElem Tryz.prog 4) bm n D):=zq (HO3.out.kept (qaK hb4 (Nat.le_refl _) none) (by simp));have HG4:Hid (wm.grownBy v4 (some bm)):=zq (qam HG3.out (qaK hb4 (Nat.le_refl _) _));have H4:=zq (⟨H3.out.1.under hb4 H3.out.1.lt,H3.out.2.1.under hb4 H3.out.2.1.lt⟩:_/\_);clear hb4 e0 e1 HO3 HG3 H3 HB3;have hmx:n<maxLen:=by unfold maxLen;omega
    go_upto_region 8 with(at_mapUpdate;refine wpList_mapUpdate_own _ rfl _ _ _ 143 rfl 30 4 qda Tryz.underlying143 (plainElem Tryz.prog 4) bm n D rfl HO4.out hmx _ _ (stK (enS (j3,j4))) rfl rfl (qcX HWE.out.2) (.lit (.bool true)) [] (plainElem_bool Tryz.underlying4 true) ?_;intro v8 ho8 hg8)
    have HG8:Hid (wm.grownBy v8 (some bm)):=zq (qam HG4.out hg8);have H8:=zq (⟨H4.out.1.grow hg8 (by have:=HLT.out;intro e;injection e with e;omega),H4.out.2.grow hg8 (by have:=HBE.out;intro e;injection e with e;omega)⟩:_/\_);have hn8:n+1<=2*i+1:=by omega
    have HS8:Hid (SetM (D.put (stK (enS (j3,j4))) (.lit (.bool true))) fun x=>folUp t s i x||(true &&eqS (enS (j3,j4)) x)):=zq ((HSE.out.put HWE.out.2).is fun x=>by simp);have HO8:=zq ho8;obtain⟨n8,hne⟩: ∃n',n+1=n':=⟨_,rfl⟩
    rw[hne]at HO8 hn8;obtain⟨D8,hde⟩: ∃D',D.put (stK (enS (j3,j4))) (.lit (.bool true))=D':=⟨_,rfl⟩
    rw[hde]at HO8 HS8;clear ho8 hg8 hne hde HO4 HG4 H4 HSE hmx;refine wp_region_held_drew (S:=(fun W_=>Has W_ (w0.heap.size) 149 #[.int .i64 j1,.int .i64 j2,.int .i64 j3,.int .i64 j4]/\Has W_ (w.heap.size+1) 30 (stA13 s)/\Below v8.heap.size v8 W_)) (by kernel_rfl) ?_ (fun hHeld=>?_)
    ·exact⟨H8.out.1.draw,H8.out.2.draw,qaf (Below.refl _ _)⟩
    refine tkZ 0 29 (h:=?_);simp only[lyZ];refine tqZ 1 30 (fun w_ hSw=>And.intro ((show w_.cell? ⟨w0.heap.size,2,none⟩=some (.int .i64 j3:Value)from hSw.1.cell 2)) ((show w_.cell? ⟨w0.heap.size,3,none⟩=some (.int .i64 j4:Value)from hSw.1.cell 3))) (h:=?_);simp only[lyZ];refine tlZ 3 32 (w.heap.size+1) (stA13 s) (fun _ ⟨_,h_,_⟩=>h_) (h:=?_);simp only[lyZ];refine rdZ [2] ?_;refine acZ (some 31) (fun K hK=>?_) ?_
    ·go_simp
     obtain⟨s0,s1,s2⟩:=hHeld;refine(HL2.out _).mono ?_;rintro e_ v7 ⟨rfl,hbs⟩;go_wp2_with fail;refine hK.out _ _ ?_ (fun hHeld=>?_)
     ·exact⟨s0.u hbs,s1.u hbs,bu s2 hbs⟩
     clear hK K s0 s1 s2
     try simp only[lyZ]
     refine wpAnyH_take (i:=4) (oi:=⟨some 33,_,_,_,_,_⟩) (v:= .bool p2) rfl (by kernel_rfl) (by kernel_rfl) (by kernel_rfl) (fun _ _ _ h=>h) (qbw .eql 30 _ _ _ rfl _ _ rfl rfl qcD _ q2 (by rfl)) (by assumption) ?_;simp only[lyZ];refine dnZ ?_;have H9:=zq hHeld;clear hHeld H8;have HO9:Hid (v7.ownsMap Tryz.prog 30 (plainElem Tryz.prog 4) bm n8 D8):=zq (HO8.out.kept (qaK H9.out.2.2 (Nat.le_refl _) none) (by simp));have HG9:Hid (wm.grownBy v7 (some bm)):=zq (qam HG8.out (qaK H9.out.2.2 (Nat.le_refl _) _));clear HO8 HG8
     cases p2 with
     |false=>
      have HSN:Hid (SetM D8 (folUp t s (i+1))):=zq (HS8.out.is fun x=>by rw[HFS.out,HFJ.out];simp);clear q1 q2;go_wp2;go_roundg (gk-1)
      case measure=>omega
      case rel=>exact⟨i+1,n8,D8,by omega,by omega,by go_num,by omega,HO9,HSN,HG9⟩
     |true=>
      have e0:v7.cell? ⟨w0.heap.size,0,none⟩=some (.int .i64 j1):=H9.out.1.cell 0;have e1:v7.cell? ⟨w0.heap.size,1,none⟩=some (.int .i64 j2):=H9.out.1.cell 1;clear q1 q2;go_wp2_with fail;refine(HE2.out _).mono ?_;rintro e v10 ⟨rfl,hb10⟩;have HO10:Hid (v10.ownsMap Tryz.prog 30 (plainElem Tryz.prog 4) bm n8 D8):=zq (HO9.out.kept (qaK hb10 (Nat.le_refl _) none) (by simp));have HG10:Hid (wm.grownBy v10 (some bm)):=zq (qam HG9.out (qaK hb10 (Nat.le_refl _) _));clear hb10 e0 e1 HO9 HG9 H9;have hmx:n8<maxLen:=by unfold maxLen;omega
      go_wp2_with (at_mapUpdate;refine wpList_mapUpdate_own _ rfl _ _ _ 143 rfl 30 4 qda Tryz.underlying143 (plainElem Tryz.prog 4) bm n8 D8 rfl HO10.out hmx _ _ (stK (enS (j1,j2))) rfl rfl (qcX HWE.out.1) (.lit (.bool true)) [] (plainElem_bool Tryz.underlying4 true) ?_;intro v11 ho11 hg11);have HG11:Hid (wm.grownBy v11 (some bm)):=zq (qam HG10.out hg11);have HO11:=zq ho11;have HSN:Hid (SetM (D8.put (stK (enS (j1,j2))) (.lit (.bool true))) (folUp t s (i+1))):=zq ((HS8.out.put HWE.out.1).is fun x=>by rw[HFS.out,HFJ.out];first|(simp;done)|(simp[Bool.or_assoc];done));clear ho11 hg11;go_roundg (gk-1)
      case measure=>omega
      case rel=>exact⟨i+1,n8+1,_,by omega,by omega,by go_num,by omega,HO11,HSN,HG11⟩
    exact AllReadyH.nil
  exact AllReadyH.nil
end
section
theorem qfh {t:Tp3}{s x:St3}:folB t s x=true↔x∈qau t s:=by
 have key: ∀j:Jt3,folJ t s x j=true↔(edgeB t s.edge=true/\edgeB t x.edge=true/\joinJ (outE s) (inE x) j=true):=by
  rintro⟨⟨a1,a2⟩,⟨b1,b2⟩⟩;obtain⟨se,sr⟩:=s;obtain⟨xe,xr⟩:=x;unfold folJ connB endB joinJ lvS enS outE inE;simp only[Bool.and_eq_true,Bool.or_eq_true,beq_iff_eq,qaX,eqE_iff,Prod.mk.injEq,St3.mk.injEq]
  constructor
  ·rintro⟨⟨⟨ha,ha2⟩,⟨hb,hb2⟩⟩,(⟨⟨rfl,rfl⟩,⟨rfl,rfl⟩⟩|⟨⟨rfl,rfl⟩,⟨rfl,rfl⟩⟩)⟩
   ·refine⟨ha,hb,.inl ⟨⟨rfl,?_⟩,⟨rfl,?_⟩⟩⟩
    ·rcases ha2 with rfl|rfl<;>simp
    ·rcases hb2 with rfl|rfl<;>simp
   ·refine⟨hb,ha,.inr ⟨⟨rfl,?_⟩,⟨rfl,?_⟩⟩⟩
    ·rcases ha2 with rfl|rfl<;>simp
    ·rcases hb2 with rfl|rfl<;>simp
  ·rintro⟨h1,h2,(⟨⟨rfl,rfl⟩,⟨rfl,rfl⟩⟩|⟨⟨rfl,rfl⟩,⟨rfl,rfl⟩⟩)⟩
   ·refine⟨⟨⟨h1,?_⟩,⟨h2,?_⟩⟩,.inl ⟨⟨rfl,?_⟩,⟨rfl,?_⟩⟩⟩<;>first|(cases sr<;>simp;done)|(cases xr<;>simp;done)
   ·refine⟨⟨⟨h2,?_⟩,⟨h1,?_⟩⟩,.inr ⟨⟨rfl,?_⟩,⟨rfl,?_⟩⟩⟩<;>first|(cases sr<;>simp;done)|(cases xr<;>simp;done)
 rw[qbd];unfold folB mayT joinB;rw[List.any_eq_true,List.any_eq_true]
 constructor
 ·rintro⟨j,hj,h⟩
  obtain⟨h1,h2,h3⟩:=(key j).1 h;exact⟨h1,h2,j,hj,h3⟩
 ·rintro⟨h1,h2,j,hj,h3⟩
  exact⟨j,hj,(key j).2 ⟨h1,h2,h3⟩⟩
end
section
open Go.RowKit
open Go.Great
open Go.Maps (has)
theorem bool_inv13 {v:Value}{z:DataW Unit×List MemPlace}(h:plainElem Tryz.prog 4 v=some z): ∃b,v= .bool b/\z=(.lit (.bool b),[]):=by
 unfold plainElem at h;rw[Tryz.underlying4]at h
 cases v<;>simp at h
 exact⟨_,rfl,h.symm⟩
theorem map_look13 {W:World}{bm n:Nat}{D:DataW Unit}{p:St3->Bool}{x:St3}(h:W.ownsMap Tryz.prog 30 (plainElem Tryz.prog 4) bm n D)(hD:SetM D p)(hx:wfS x):
  (Instr.lookup 143 (.map (some bm)) (.agg #[.int .i64 x.edge,.bool x.rev]) false).run Tryz.prog W= .ok (.bool (p x)) W:=by
 obtain⟨v,ps,hr,hv⟩:=h.lookup qda Tryz.underlying143 (z:= .bool false) (by kernel_rfl) (plainElem_bool Tryz.underlying4 false) (qcX hx);obtain⟨b,rfl,hz⟩:=bool_inv13 hv;have h1:D.atKey (stK x) (.lit (.bool false))= .lit (.bool b):=congrArg Prod.fst hz;rw[hD.tr,hD.mem x hx]at h1
 cases h1
 exact hr
theorem fol_may {t:Tp3}{a b:St3}(ha:edgeB t a.edge=true)(hb:edgeB t b.edge=true):folB t a b=mayT t a b:=by
 rw[Bool.eq_iff_iff,qfh,qbd];exact⟨fun h=>h.2.2,fun h=>⟨ha,hb,h⟩⟩
theorem otway_any (t:Tp3)(a:TpA)(path:List St3)(A:Option Addr)(n c:Nat)(w:World)(ht:TopR w t a)(hp:SlO stC 2 w A n c path)(hn:n<=1048576)(hn1:1<=n)(hl:t.edges.length<=100)(hj:t.joints.length<=100)(hall: ∀s∈path,edgeB t s.edge=true):
  Calls Tryz.prog 194 #[.agg (tpC t a),.slice A n c] w fun e w'=>e= .returned (.bool (wayB t path))/\Below w.heap.size w w':=by
 obtain⟨wa,hwa,hbwa,HWA,HBWA,h0⟩:=bx1Z w 27 (tpC t a);have H0:=zH h0;have HT:=zq (fun W (hW:Below w.heap.size w W)=>ht.under hW);have HP:=zq (fun W (hW:Below w.heap.size w W)=>hp.under hW);have HBA:=zq (fun W (hW:Below wa.heap.size wa W)=>hbwa.trans (hW.mono hbwa.size));have HLN:=zq hp.1;have HALL:=zq hall;have HL:=zq hl;have HJ:=zq hj;obtain⟨rb,hrb⟩: ∃r,wayB t path=r:=⟨_,rfl⟩
 have HRB:=zq hrb;rw[hrb];clear hwa hbwa h0 ht hp hall hl hj hrb;go_enter Tryz.func194,Tryz.ntmps194;go_upto_region 1 with fail;rw[HWA.out];clear HWA;go_wp2;go_loopg [5] n (fun kk v wl=> ∃m:Nat,1<=m/\m<=n/\n-m<=kk/\v= .int .i64 m/\Hid (∀k a b,k+1<m->path[k]?=some a->path[k+1]?=some b->mayT t a b=true)/\Below wa.heap.size wa wl)
 case atStart=>exact⟨1,by omega,hn1,by omega,rfl,zq (fun k a b h=>absurd h (by omega)),Below.refl _ _⟩
 obtain⟨m,hm1,hm,hmk,rfl,HMA,hwm⟩:=hrel;have HWM:=zq hwm;have HNN:=zq hn;by_cases hml:m<n;rotate_left
 ·obtain rfl:m=n:=by omega
  have x1: ¬(m:Int)<m:=by omega
  have HF:Hid (rb=true):=zq (by rw[<-HRB.out];exact way_at.2 fun k a b ha hb=>HMA.out k a b (by have h1_:=(List.getElem?_eq_some_iff.1 hb).1;have h2_:=HLN.out;omega) ha hb);clear hm hmk hwm;go_wp2;go_ret
  exact⟨by rw[HF.out];rfl,HBA.out _ HWM.out⟩
 obtain⟨x,hx⟩:=glZ path (m-1) (by have:=HLN.out;omega);obtain⟨y,hy⟩:=glZ path (m) (by have:=HLN.out;omega);have HX:=zq hx;have HY:=zq hy;have HEX:=zq (HALL.out x (List.mem_of_getElem? hx));have HEY:=zq (HALL.out y (List.mem_of_getElem? hy));have HWY:=zq (wfS_of HEY.out HL.out);obtain⟨bk,off,rfl,-,-⟩:=(HP.out w (Below.refl _ _)).step hx;have HCX:=zq (fun W (hW:Below w.heap.size w W)=>(show W.cell? ⟨bk,off+(m-1)*2,none⟩=some (.int .i64 x.edge)/\W.cell? ⟨bk,off+(m-1)*2+1,none⟩=some (.bool x.rev)from by obtain⟨b_,o_,e_,h1_,h2_⟩:=(HP.out W hW).step hx;injection e_ with e_;injection e_ with e1_ e2_ _;subst e1_ e2_;exact⟨h1_,h2_⟩));have HCY:=zq (fun W (hW:Below w.heap.size w W)=>(show W.cell? ⟨bk,off+m*2,none⟩=some (.int .i64 y.edge)/\W.cell? ⟨bk,off+m*2+1,none⟩=some (.bool y.rev)from by obtain⟨b_,o_,e_,h1_,h2_⟩:=(HP.out W hW).step hy;injection e_ with e_;injection e_ with e1_ e2_ _;subst e1_ e2_;exact⟨h1_,h2_⟩));obtain⟨bq,hbq⟩: ∃b,mayT t x y=b:=⟨_,rfl⟩
 have HBQ:=zq hbq;have HFQ:=zq (show folB t x y=bq from(fol_may HEX.out HEY.out).trans hbq);have hw1:IntKind.i64.wrap ((m:Int)-1)=(m:Int)-1:=by rw[IntKind.wrap_i64];omega
 have hw2:((m:Int)-1).toNat=m-1:=by omega
 have y0:(0:Int)<=(m:Int)-1:=by omega
 have y1:(m:Int)-1<n:=by omega
 have y2:(0:Int)<=(m:Int):=by omega
 have y4:(1:Int)<=(m:Int):=by omega
 have y3:(m:Int)<n:=by omega
 clear hx hy hwm hbq;go_upto_region 4 with fail;refine wp_region_held_drew (S:=(fun W_=>Has W_ (w.heap.size) 27 (tpC t a)/\Below wr.heap.size wr W_)) (by kernel_rfl) ?_ (fun hHeld=>?_)
 ·exact⟨(H0.out _ HWM.out).draw,qaf (Below.refl _ _)⟩
 refine tlZ 0 12 w.heap.size (tpC t a) (fun _ ⟨h_,_⟩=>h_) (h:=?_);simp only[lyZ];refine tkZ 1 13 (h:=?_);simp only[lyZ];refine tkZ 2 14 (h:=?_);simp only[lyZ];refine tkZ 3 15 (h:=?_);simp only[lyZ];refine tkZ 4 16 (h:=?_);simp only[lyZ];refine tqZ 5 17 (fun w_ hSw=>HCX.out w_ (HBA.out w_ (HWM.out.trans (hSw.2.mono HWM.out.size)))) (h:=?_);simp only[lyZ];refine tkZ 7 19 (h:=?_);simp only[lyZ];refine tkZ 8 20 (h:=?_);simp only[lyZ];refine tkZ 9 21 (h:=?_);simp only[lyZ];refine tqZ 10 22 (fun w_ hSw=>HCY.out w_ (HBA.out w_ (HWM.out.trans (hSw.2.mono HWM.out.size)))) (h:=?_);simp only[lyZ];refine rdZ [6] ?_;refine acZ (some 18) (fun K hK=>?_) ?_
 ·go_simp
  obtain⟨s0,s1⟩:=hHeld;have hlo_:=HBA.out _ (bu HWM.out s1);refine(otfol_any t a x _ (HT.out _ hlo_) HL.out (by have:=HJ.out;omega)).mono ?_;rintro e_ vs ⟨bm,n2,D,rfl,hn2,HO,HD,_,hbs⟩;go_wp2_with fail;refine hK.out _ _ ?_ (fun hHeld=>?_)
  ·exact⟨s0.u hbs,bu s1 hbs⟩
  refine mr2 (fun W_=>World.ownsMap W_ Tryz.prog 30 (plainElem Tryz.prog 4) bm n2 D) ⟨s0.u hbs,bu s1 hbs,HO.out⟩ (fun h_=>?_);clear hHeld;have hHeld:=h_;clear h_;clear hK K s0 s1
  try simp only[lyZ]
  refine tkZ 11 23 (hy:=by intro w_ hSw;(try dsimp only at hSw);have q_:=map_look13 hSw.2.2 HD.out HWY.out;rw[HFQ.out]at q_;go_simp<;>with_reducible rfl) (h:=?_);simp only[lyZ];refine tkZ 12 24 (h:=?_);simp only[lyZ];refine dnZ ?_;clear hw1 hw2 y0 y1 y2 y3 y4
  cases bq with
  |false=>
   have HF:Hid (rb=false):=zq (by rw[<-HRB.out];cases h:wayB t path with
    |false=>rfl
    |true=>have h_:=way_at.1 h (m-1) x y HX.out (by rw[show m-1+1=m by omega];exact HY.out);rw[HBQ.out]at h_;cases h_)
   go_wp2;go_ret
   exact⟨by rw[HF.out];rfl,HBA.out _ (HWM.out.trans (hHeld.2.1.mono HWM.out.size))⟩
  |true=>
   go_wp2;go_roundg (gk-1)
   case measure=>omega
   case rel=>
    refine⟨m+1,by omega,by omega,by omega,by go_num,zq (fun k a' b' hk ha hb=>?_),HWM.out.trans (hHeld.2.1.mono HWM.out.size)⟩;by_cases hkm:k+1=m
    ·have e_:k=m-1:=by omega
     rw[e_,HX.out]at ha;rw[hkm,HY.out]at hb;injection ha with ha
     injection hb with hb
     rw[<-ha,<-hb];exact HBQ.out
    ·exact HMA.out k a' b' (by omega) ha hb
 exact AllReadyH.nil
theorem qep (t:Tp3)(a:TpA)(path:List St3)(A:Option Addr)(n c:Nat)(w:World)(ht:TopR w t a)(hp:SlO stC 2 w A n c path)(hn:n<=1048576)(hl:qaH t=true)(hok:qav t=true):Calls Tryz.prog 146 #[.agg (tpC t a),.slice A n c] w fun e w'=>e= .returned (.tuple #[.int .i64 (lenN t path),.int .i64 (lenE t path)])/\Below w.heap.size w w':=by
 have hlg:=qax hl;obtain⟨wa,hwa,hbwa,HWA,HBWA,h0⟩:=bx1Z w 27 (tpC t a);have H0:=zH h0;have HT:=zq (fun W (hW:Below w.heap.size w W)=>ht.under hW);have HP:=zq (fun W (hW:Below w.heap.size w W)=>hp.under hW);have HBA:=zq (fun W (hW:Below wa.heap.size wa W)=>hbwa.trans (hW.mono hbwa.size));have HLN:=zq hp.1;have HOK:=zq hok;have HL:=zq hlg.1;have HJ:=zq hlg.2.1;obtain⟨rN,hrN⟩: ∃r,lenN t path=r:=⟨_,rfl⟩
 obtain⟨rE,hrE⟩: ∃r,lenE t path=r:=⟨_,rfl⟩
 have HRN:=zq hrN;have HRE:=zq hrE;rw[hrN,hrE];have HWI:=zq (fun W=>qbM n 1 40 W);obtain⟨b1,hb1⟩: ∃b,qas n 1 40=b:=⟨_,rfl⟩
 rw[hb1]at HWI;have HB1:Hid (qas n 1 40=b1):=zq hb1;have HEE:=zq (fun W (hW:Below w.heap.size w W)=>qfA t a path A n c W (hp.under hW) hn hlg.1);obtain⟨b2,hb2⟩: ∃b,(path.all fun s=>edgeB t s.edge)=b:=⟨_,rfl⟩
 rw[hb2]at HEE;have HB2:=zq hb2;have HNB:=zq hn;clear hwa hbwa h0 ht hp hok hrN hrE hl hlg hb1 hb2 hn
 cases b1 with
 |false=>
  go_enter Tryz.func146,Tryz.ntmps146;go_upto_region 1 with fail;rw[HWA.out];clear HWA;go_wp2_with fail;refine(HWI.out _).mono ?_;rintro e w1 ⟨rfl,hw1⟩;rw[hw1];clear hw1;go_wp2;go_ret2
  have hE:lenE t path=1:=by unfold lenE;rw[if_pos (by have h_:=HB1.out;unfold qas at h_;simp only[Bool.and_eq_false_iff,decide_eq_false_iff_not]at h_;have:=HLN.out;omega)]
  have e1_:rN=0:=by rw[<-HRN.out];unfold lenN;rw[hE];rfl
  have e2_:rE=1:=by rw[<-HRE.out];exact hE
  subst e1_ e2_;exact⟨rfl,HBWA.out⟩
 |true=>
  cases b2 with
  |false=>
   go_enter Tryz.func146,Tryz.ntmps146;go_upto_region 1 with fail;rw[HWA.out];clear HWA;go_wp2_with fail;refine(HWI.out _).mono ?_;rintro e w1 ⟨rfl,hw1⟩;rw[hw1];clear hw1;go_wp2_with ((with_reducible refine qbF 15 ?_);refine qaC (o:=⟨some 15,_,_,_,_,_⟩) 27 _ rfl (by kernel_rfl) (w.heap.size) rfl 27 (tpC t a) (0,0) _ ((H0.out _ (Below.refl _ _))).raw11 Tryz.underlying27 rfl (by kernel_rfl) ?_);refine(HEE.out _ HBWA.out).mono ?_;rintro e w2 ⟨rfl,hbw2⟩;have HB3:=tB HBWA hbw2;clear hbw2;go_wp2;go_ret2
   have hE:lenE t path=1:=by unfold lenE;rw[if_neg (by have h_:=HB1.out;unfold qas at h_;simp only[Bool.and_eq_true,decide_eq_true_eq]at h_;have:=HLN.out;omega),HB2.out];rfl
   have e1_:rN=0:=by rw[<-HRN.out];unfold lenN;rw[hE];rfl
   have e2_:rE=1:=by rw[<-HRE.out];exact hE
   subst e1_ e2_;exact⟨rfl,HB3.out⟩
  |true=>
   go_enter Tryz.func146,Tryz.ntmps146;go_upto_region 1 with fail;rw[HWA.out];clear HWA;go_wp2_with fail;refine(HWI.out _).mono ?_;rintro e w1 ⟨rfl,hw1⟩;rw[hw1];clear hw1;go_wp2_with ((with_reducible refine qbF 15 ?_);refine qaC (o:=⟨some 15,_,_,_,_,_⟩) 27 _ rfl (by kernel_rfl) (w.heap.size) rfl 27 (tpC t a) (0,0) _ ((H0.out _ (Below.refl _ _))).raw11 Tryz.underlying27 rfl (by kernel_rfl) ?_);refine(HEE.out _ HBWA.out).mono ?_;rintro e w2 ⟨rfl,hbw2⟩;have HBW:=zq hbw2;have HALL:Hid (∀s∈path,edgeB t s.edge=true):=zq (List.all_eq_true.1 HB2.out);have HNZ:Hid (1<=n/\n<=40):=zq (by have h_:=HB1.out;unfold qas at h_;simp only[Bool.and_eq_true,decide_eq_true_eq]at h_;omega);have HWY:=zq (otway_any t a path A n c w2 (HT.out _ (HBA.out _ hbw2)) (HP.out _ (HBA.out _ hbw2)) HNB.out HNZ.out.1 HL.out HJ.out HALL.out);obtain⟨b3,hb3⟩: ∃b,wayB t path=b:=⟨_,rfl⟩
   rw[hb3]at HWY;have HB3:=zq hb3;clear hbw2 hb3;go_wp2_with (with_reducible refine ldZ 21 (H0.out _ HBW.out) ?_);refine HWY.out.mono ?_;rintro e w3 ⟨rfl,hbw3⟩;have HW3:=tB HBW hbw3;clear hbw3 HWY HBW
   cases b3 with
   |false=>
    go_wp2;go_ret2
    have hE:lenE t path=141:=by unfold lenE;rw[if_neg (by have h_:=HB1.out;unfold qas at h_;simp only[Bool.and_eq_true,decide_eq_true_eq]at h_;have:=HLN.out;omega),HB2.out,if_pos rfl,HB3.out];rfl
    have e1_:rN=0:=by rw[<-HRN.out];unfold lenN;rw[hE];rfl
    have e2_:rE=141:=by rw[<-HRE.out];exact hE
    subst e1_ e2_;exact⟨rfl,HBA.out _ HW3.out⟩
   |true=>
    have HE0:Hid (lenE t path=0):=zq (by unfold lenE;rw[if_neg (by have h_:=HB1.out;unfold qas at h_;simp only[Bool.and_eq_true,decide_eq_true_eq]at h_;have:=HLN.out;omega),HB2.out,if_pos rfl,HB3.out];rfl);clear HB1 HB2 HB3 HWI HEE;go_wp2;go_loopg [6,27] n (fun kk v6 v27 wl=> ∃i:Nat,i<=n/\n-i<=kk/\v27= .int .i64 i/\v6= .int .i64 (sumT t (path.take i))/\Hid (Below wa.heap.size wa wl))
    case atStart=>exact⟨0,by omega,by omega,rfl,by simp[sumT],HW3⟩
    obtain⟨i,hi,hik,rfl,rfl,HWR⟩:=hrel;by_cases hlt:i<n;rotate_left
    ·obtain rfl:i=n:=by omega
     have x1: ¬(i:Int)<i:=by omega
     have hti:path.take i=path:=List.take_of_length_le (by have:=HLN.out;omega);rw[hti];have HSM:Hid (rN=sumT t path/\rE=0):=zq ⟨by rw[<-HRN.out];unfold lenN;rw[if_pos HE0.out],by rw[<-HRE.out];exact HE0.out⟩;clear hti;go_wp2;go_ret2
     obtain⟨e1_,e2_⟩:=HSM.out;subst e1_ e2_;exact⟨rfl,HBA.out _ HWR.out⟩
    obtain⟨x,hx⟩:=glZ path (i) (by have:=HLN.out;omega);have HX:=zq hx;have hex:=HALL.out x (List.mem_of_getElem? hx);have hed:0<=x.edge/\x.edge<t.edges.length:=by have h_:=hex;unfold edgeB at h_;simpa using h_
    obtain⟨e,hee⟩: ∃e:Nat,x.edge=e:=⟨x.edge.toNat,by omega⟩
    have hel:e<t.edges.length:=by omega
    have HLA:=zq (show lenAt t x=t.edges.getD e 0 from by unfold lenAt;rw[hee];rfl);have HLB:=zq (qaT HOK.out hex);obtain⟨q,hq⟩:=geZ (t.edges.getD e 0);have HSB:=zq (qck HOK.out (fun s hs=>HALL.out s (List.mem_of_mem_take hs)) (path:=path.take i));obtain⟨sv,hsv⟩: ∃s,sumT t (path.take i)=s:=⟨_,rfl⟩
    have HSV:=zq hsv;simp only[hsv];have hl0:(path.take i).length<=40:=by have:=HNZ.out;rw[List.length_take];omega
    have hs:0<=sv/\sv<=40000000:=by have h_:=HSB.out;rw[hsv]at h_;omega
    rw[hq]at HLA;have hq2:1<=q/\q<=1000000:=by have h_:=HLB.out;rw[HLA.out]at h_;exact h_
    have hwr1:IntKind.i64.wrap (sv+q)=sv+q:=by rw[IntKind.wrap_i64];omega
    have HQ:=zq hq;have HHE:=zq hee;have HEL:=zq hel;have HRNG:=zq hs;have HQ2:=zq hq2;obtain⟨bk,off,rfl,d0,d1⟩:=(HP.out _ (HBA.out _ HWR.out)).step hx;rw[hee]at d0;have y0:(0:Int)<=i:=by omega
    have y1:(i:Int)<n:=by omega
    have y2:(i:Int)<40:=by have:=HNZ.out;omega
    clear hx hex hed hee hel hq hsv hl0 hs;go_upto_region 9 with fail;obtain⟨wb,hwb⟩:=geZ (wr.alloc (.cells #[.int .i64 (e:Nat),.bool x.rev] 30));rw[hwb];have hbb:Below wr.heap.size wr wb:=by rw[<-hwb];exact bA
    have hH:Has wb wr.heap.size 30 #[.int .i64 (e:Nat),.bool x.rev]:=by rw[<-hwb];exact Has.made _ _ _
    have HWB:=tB HWR hbb;have hc0:wb.cell? ⟨wr.heap.size,0,none⟩=some (.int .i64 (e:Nat)):=hH.cell 0;obtain⟨be,oe,hae,ce⟩:=(HT.out _ (HBA.out _ HWB.out)).e.edge HEL.out;have c0:=(H0.out _ HWB.out).cell 0;have c0':wb.cell? ⟨w.heap.size,0,none⟩=some (.slice (some ⟨be,oe,none⟩) t.edges.length a.ce):=by first|exact c0.trans (by rw[<-hae];rfl)|(rw[<-hae];exact c0)
    have z0:(0:Int)<=e:=by omega
    have z1:(e:Int)<t.edges.length:=by have:=HEL.out;omega
    rw[HQ.out]at ce;obtain⟨me,hme⟩: ∃m,t.edges.length=m:=⟨_,rfl⟩
    rw[hme]at c0' z1;clear hwb hbb hH c0 hme hae d0 d1;go_wp2;go_roundg (gk-1)
    case measure=>omega
    case rel=>
     refine⟨i+1,by omega,by omega,by go_num,?_,HWB⟩;rw[List.take_add_one,HX.out,qew,HSV.out];show _=Value.int .i64 (sv+(lenAt t x+0))
     rw[HLA.out,Int.add_zero]
end
section
open Go.RowKit
open Go.Great
theorem routeE_w (t:Tp3)(r:Rt3):qbD t r=if r.id<1 then 1 else if 8<r.path.length then 1 else if qbs r.path=true then 1 else if lenE t r.path=0 then(if qas r.gap 0 (lenN t r.path-1)=true then(if qas r.timer 1 1000=true then(if(r.path.all (qcr t))=true then 0 else 4)else 1)else 1)else lenE t r.path:=by
 unfold qbD;by_cases h1:r.id<1
 ·rw[if_pos (.inl h1),if_pos h1]
 ·rw[if_neg h1]
  by_cases h2:8<r.path.length
  ·rw[if_pos (.inr (.inr h2)),if_pos h2]
  ·rw[if_neg h2]
   by_cases h3:r.path.length=0
   ·rw[if_pos (.inr (.inl h3))]
    have hp:r.path=[]:=List.eq_nil_of_length_eq_zero h3;have ht:qbs r.path=false:=by rw[hp];rfl
    have hl:lenE t r.path=1:=by unfold lenE;rw[if_pos (.inl h3)]
    rw[ht,if_neg (by decide),hl,if_neg (by decide)]
   ·rw[if_neg (by omega)]
    cases ht:qbs r.path with
    |true=>rw[if_neg (by simp),if_pos rfl]
    |false=>
     rw[if_neg (c:=false=true) (by decide)]
     cases ha:(r.path.all fun s=>edgeB t s.edge)with
     |false=>
      have hl:lenE t r.path=1:=by unfold lenE;rw[if_neg (by omega),ha,if_neg (by decide)]
      rw[if_neg (by decide),hl,if_neg (by decide)]
     |true=>
      rw[if_pos (by decide)];by_cases h4:lenE t r.path=0
      ·rw[if_pos h4,if_pos h4]
       cases hg:qas r.gap 0 (lenN t r.path-1)with
       |false=>
        rw[if_neg (c:=false=true) (by decide),if_pos];unfold qas at hg;simp only[Bool.and_eq_false_iff,decide_eq_false_iff_not]at hg;omega
       |true=>
        rw[if_pos rfl];unfold qas at hg;simp only[Bool.and_eq_true,decide_eq_true_eq]at hg
        cases hr:qas r.timer 1 1000 with
        |false=>
         rw[if_neg (c:=false=true) (by decide),if_pos];unfold qas at hr;simp only[Bool.and_eq_false_iff,decide_eq_false_iff_not]at hr;omega
        |true=>
         unfold qas at hr;simp only[Bool.and_eq_true,decide_eq_true_eq]at hr;rw[if_pos rfl,if_neg (by omega)]
      ·rw[if_neg h4,if_neg h4]
theorem otcr_any (t:Tp3)(a:TpA)(i:Nat)(r:Rt3)(w:World)(ht:TopR w t a)(hl:qaH t=true)(hok:qav t=true)(hr:t.routes[i]?=some r):
  Calls Tryz.prog 104 #[.agg (tpC t a),.int .i64 i] w fun e w'=>e= .returned (.int .i64 (qa1 t i))/\Below w.heap.size w w':=by
 have hlg:=qax hl;obtain⟨wa,hwa,hbwa,HWA,HBWA,h0⟩:=bx1Z w 27 (tpC t a);have hil:=(List.getElem?_eq_some_iff.1 hr).1;have hpl:=hlg.2.2.2.2 r (List.mem_of_getElem? hr);rw[routeAt_at hr,routeE_w];have hix:=idx_take (p:=fun y:Rt3=>y.id==r.id) hr (by simp);have HFR:=zq (fun W (hW:Below w.heap.size w W)=>qde t a r.id W (ht.under hW) (by have:=hlg.2.2.2.1;omega));obtain⟨nr,hnr⟩: ∃n,t.routes.length=n:=⟨_,rfl⟩
 obtain⟨AR,hAR⟩: ∃A,a.ar=A:=⟨_,rfl⟩
 have hrs:RtsR w AR nr a.cr t.routes:=by rw[<-hAR,<-hnr];exact ht.r
 obtain⟨bk,off,PA,pc,rfl,hpa,d0,d1,d2,d3,hcap⟩:=hrs.cap_at hr;have HRP:=zq (fun W (hW:Below w.heap.size w W)=>otrep_any r.path PA r.path.length pc W (hpa.under hW) (by omega) hcap);have HLE:=zq (fun W (hW:Below w.heap.size w W)=>qep t a r.path PA r.path.length pc W (ht.under hW) (hpa.under hW) (by omega) hl hok);have HHB:=zq (fun W (hW:Below w.heap.size w W)=>othave_any t a r.path PA r.path.length pc W (ht.under hW) hlg.2.2.1 (hpa.under hW) (by omega));have HWG:=zq (fun W=>qdv r.gap 0 (lenN t r.path-1) W);have HWT:=zq (fun W=>qdv r.timer 1 1000 W);have HLB:=zq (show lenE t r.path=0->0<=lenN t r.path/\lenN t r.path<=40000000 from fun h=>by
  have h0_:=h;unfold lenE at h0_;split at h0_
  ·exact absurd h0_ (by decide)
  ·rename_i h1_
   split at h0_
   ·rename_i h2_
    rw[List.all_eq_true]at h2_;have:=qck hok h2_;unfold lenN;rw[if_pos h];omega
   ·exact absurd h0_ (by decide))
 have c3:wa.cell? ⟨w.heap.size,3,none⟩=some (.slice (some ⟨bk,off,none⟩) nr a.cr):=by rw[<-hnr,<-hAR];exact h0.cell 3
 have f0:=(hbwa.cell (qah d0)).trans d0;have f1:=(hbwa.cell (qah d1)).trans d1;have f2:=(hbwa.cell (qah d2)).trans d2;have f3:=(hbwa.cell (qah d3)).trans d3;have HBA:=zq (fun W (hW:Below wa.heap.size wa W)=>hbwa.trans (hW.mono hbwa.size));have HH0:=zq h0;have y0:(0:Int)<=i:=by omega
 have y1:(i:Int)<nr:=by omega
 obtain⟨R,hR⟩:=geZ (idxL (fun y:Rt3=>y.id==r.id) t.routes);rw[hR]at hix HFR;obtain⟨kk,hkk⟩: ∃x,((t.routes.take i).any fun y:Rt3=>y.id==r.id)=x:=⟨_,rfl⟩
 rw[hkk]at hix;have HIX:=zq hix;obtain⟨tw,htw⟩: ∃x,qbs r.path=x:=⟨_,rfl⟩
 obtain⟨le,hle⟩: ∃x,lenE t r.path=x:=⟨_,rfl⟩
 obtain⟨ln,hln⟩: ∃x,lenN t r.path=x:=⟨_,rfl⟩
 rw[hln]at HWG;obtain⟨bg,hbg⟩: ∃x,qas r.gap 0 (ln-1)=x:=⟨_,rfl⟩
 obtain⟨bt,hbt⟩: ∃x,qas r.timer 1 1000=x:=⟨_,rfl⟩
 obtain⟨hb,hhb⟩: ∃x,r.path.all (qcr t)=x:=⟨_,rfl⟩
 rw[htw]at HRP;rw[hle,hln]at HLE HLB;rw[hbg]at HWG;rw[hbt]at HWT;rw[hhb]at HHB;rw[hkk,htw,hle,hln,hbg,hbt,hhb];obtain⟨V,hV⟩: ∃V:Int,(if(if r.id<1 then(1:Int)else if 8<r.path.length then 1 else if tw=true then 1 else if le=0 then(if bg=true then(if bt=true then(if hb=true then 0 else 4)else 1)else 1)else le)=0 then(if kk=true then 5 else 0)else(if r.id<1 then(1:Int)else if 8<r.path.length then 1 else if tw=true then 1 else if le=0 then(if bg=true then(if bt=true then(if hb=true then 0 else 4)else 1)else 1)else le))=V:=⟨_,rfl⟩
 rw[hV];have HV:=zq hV;clear hV;clear hwa hbwa h0 ht hl hok hlg hr hrs hil hnr hAR hix hR hkk htw hle hln hbg hbt hhb hpa hcap d0 d1 d2 d3;obtain⟨rl,hrl⟩: ∃n,r.path.length=n:=⟨_,rfl⟩
 rw[hrl]at HRP HLE HHB f1 hpl HV;clear hrl;obtain⟨ri,rp,rg,rt⟩:=r;dsimp only at*;go_enter Tryz.func104,Tryz.ntmps104;go_upto_region 1 with fail;rw[HWA.out];clear HWA;go_upto_region 2 with fail;obtain⟨wb,hwb⟩:=geZ (wa.alloc (.cells #[.int .i64 ri,.slice PA rl pc,.int .i64 rg,.int .i64 rt] 75));rw[hwb];have hbb:Below wa.heap.size wa wb:=by rw[<-hwb];exact bA
 have hX:Has wb wa.heap.size 75 #[.int .i64 ri,.slice PA rl pc,.int .i64 rg,.int .i64 rt]:=by rw[<-hwb];exact Has.made _ _ _
 have HB0:=uH HH0 hbb;have HBB:=zq (HBA.out _ hbb);obtain⟨g5,hg5⟩: ∃g,wa.heap.size=g:=⟨_,rfl⟩
 rw[hg5]at hX;simp only[hg5];have HX:=zq hX;clear hwb hbb hX hg5 f0 f1 f2 f3 c3 HH0 HBA;have e0:wb.cell? ⟨g5,0,none⟩=some (.int .i64 ri):=HX.out.cell 0;have e1:wb.cell? ⟨g5,1,none⟩=some (.slice PA rl pc):=HX.out.cell 1;by_cases h1:ri<1
 ·skip
  have HVV:Hid (V=1):=zq (by rw[<-HV.out];simp[h1]);go_wp2;go_ret
  exact⟨by rw[HVV.out];rfl,HBB.out⟩
 by_cases h2:8<rl
 ·have h3:(rl:Int)>8:=by omega
  have HVV:Hid (V=1):=zq (by rw[<-HV.out];simp[h1,h2]);go_wp2;go_ret
  exact⟨by rw[HVV.out];rfl,HBB.out⟩
 have hv2:=HV.out;rw[if_neg h1,if_neg h2]at hv2;have HVB:=zq hv2;clear hv2 HV;have h3: ¬(rl:Int)>8:=by omega
 have HA:=zq (HRP.out wb HBB.out);clear HRP;go_wp2_with fail;refine HA.out.mono ?_;rintro e w2 ⟨rfl,hb2⟩;have HX2:=uH HX hb2;have HB20:=uH HB0 hb2;have HBB2:=tB HBB hb2;clear hb2 HA h1 h2 h3 e0 e1 HX HB0 HBB
 cases tw with
 |true=>
  have HVV:Hid (V=1):=zq (by rw[<-HVB.out];simp);go_wp2;go_ret
  exact⟨by rw[HVV.out];rfl,HBB2.out⟩
 |false=>
  have e1:w2.cell? ⟨g5,1,none⟩=some (.slice PA rl pc):=HX2.out.cell 1;have HA:=zq (HLE.out w2 HBB2.out);clear HLE;go_upto_region 4 with fail;go_wp2_with (with_reducible refine ldZ 28 HB20.out ?_);refine HA.out.mono ?_;rintro e w3 ⟨rfl,hb3⟩;have HX3:=uH HX2 hb3;have HB30:=uH HB20 hb3;have HBB3:=tB HBB2 hb3;clear hb3 HA e1 HX2 HB20 HBB2;by_cases h4:le=0;rotate_left
  ·have n1:(le==0)=false:=by simp[h4]
   have n2:(le !=0)=true:=by simp[h4]
   have HVV:Hid (V=le):=zq (by rw[<-HVB.out];simp[h4]);go_wp2;go_ret
   exact⟨by rw[HVV.out];rfl,HBB3.out⟩
  have hln:=HLB.out h4;subst h4;have hws:IntKind.i64.wrap (ln-1)=ln-1:=by rw[IntKind.wrap_i64];omega
  clear HLB hln;have e2:w3.cell? ⟨g5,2,none⟩=some (.int .i64 rg):=HX3.out.cell 2;go_wp2_with fail;refine(HWG.out _).mono ?_;rintro e w4 ⟨rfl,hb4⟩;have HX4:=uH HX3 hb4;have HB40:=uH HB30 hb4;have HBB4:=tB HBB3 hb4;clear hb4 e2 HX3 HB30 HBB3 HWG hws
  cases bg with
  |false=>
   have HVV:Hid (V=1):=zq (by rw[<-HVB.out];simp);go_wp2;go_ret
   exact⟨by rw[HVV.out];rfl,HBB4.out⟩
  |true=>
   have e3:w4.cell? ⟨g5,3,none⟩=some (.int .i64 rt):=HX4.out.cell 3;go_wp2_with fail;refine(HWT.out _).mono ?_;rintro e w5 ⟨rfl,hb5⟩;have HX5:=uH HX4 hb5;have HB50:=uH HB40 hb5;have HBB5:=tB HBB4 hb5;clear hb5 e3 HX4 HB40 HBB4 HWT
   cases bt with
   |false=>
    have HVV:Hid (V=1):=zq (by rw[<-HVB.out];simp);go_wp2;go_ret
    exact⟨by rw[HVV.out];rfl,HBB5.out⟩
   |true=>
    have e1:w5.cell? ⟨g5,1,none⟩=some (.slice PA rl pc):=HX5.out.cell 1;have HA:=zq (HHB.out w5 HBB5.out);clear HHB;go_upto_region 9 with fail;go_wp2_with (with_reducible refine ldZ 52 HB50.out ?_);refine HA.out.mono ?_;rintro e w6 ⟨rfl,hb6⟩;have HX6:=uH HX5 hb6;have HB60:=uH HB50 hb6;have HBB6:=tB HBB5 hb6;clear hb6 HA e1 HX5 HB50 HBB5
    cases hb with
    |false=>
     have HVV:Hid (V=4):=zq (by rw[<-HVB.out];simp);go_wp2;go_ret
     exact⟨by rw[HVV.out];rfl,HBB6.out⟩
    |true=>
     have e0:w6.cell? ⟨g5,0,none⟩=some (.int .i64 ri):=HX6.out.cell 0;have HA:=zq (HFR.out w6 HBB6.out);clear HFR;go_upto_region 11 with fail;go_wp2_with (with_reducible refine ldZ 58 HB60.out ?_);refine HA.out.mono ?_;rintro e w7 ⟨rfl,hb7⟩;have HBB7:=tB HBB6 hb7;have hlt:=HIX.out;clear hb7 HA e0 HX6 HB60 HBB6
     cases kk with
     |true=>
      have hlt2:R<(i:Int):=by simpa using hlt
      have HVV:Hid (V=5):=zq (by rw[<-HVB.out];simp);clear hlt;go_wp2;go_ret
      exact⟨by rw[HVV.out];rfl,HBB7.out⟩
     |false=>
      have hlt2: ¬R<(i:Int):=by simpa using hlt
      have HVV:Hid (V=0):=zq (by rw[<-HVB.out];simp);clear hlt;go_wp2;go_ret
      exact⟨by rw[HVV.out];rfl,HBB7.out⟩
end
section
open Go.RowKit
open Go.Great
theorem qfB (t:Tp3)(a:TpA)(w:World)(ht:TopR w t a)(hl:qaH t=true)(hcj:t.joints.length<=a.cj):Calls Tryz.prog 39 #[.agg (tpC t a)] w fun e w'=>e= .returned (.int .i64 (qaE t))/\Below w.heap.size w w':=by
 have hlg:=qax hl;obtain⟨wa,hwa,hbwa,HWA,HBWA,h0⟩:=bx1Z w 27 (tpC t a);have c0:wa.cell? ⟨w.heap.size,0,none⟩=some (.slice a.ae t.edges.length a.ce):=(h0).cell 0;have H0:=zH h0;have HT:=zq (fun W (hW:Below w.heap.size w W)=>ht.under hW);have HBA:=zq (fun W (hW:Below wa.heap.size wa W)=>hbwa.trans (hW.mono hbwa.size));have HLG:=zq hlg;have HLT:=zq hl;have HCJ:=zq hcj;obtain⟨V,hV⟩:=geZ (qaE t);rw[hV];have HV:=zq hV;obtain⟨lg,hlgb⟩: ∃b,longB t=b:=⟨_,rfl⟩
 have HLB:=zq hlgb;have HLO:=zq (otlong_any t a wa);rw[hlgb]at HLO;have heo:(t.edges.any fun x=>!qas x 1 1000000)=!qav t:=by
  unfold qav;rw[List.all_eq_not_any_not,Bool.not_not]
  rfl
 have HCK:=zq (fun W (hW:Below wa.heap.size wa W)=>oct_ck (fun x=>!qas x 1 1000000) t.edges a.ae t.edges.length a.ce W (ht.under (bu hbwa hW)).e (by omega) (zq fun x W2 _=>(otck_any x W2)));rw[heo]at HCK;obtain⟨ok,hok⟩: ∃b,qav t=b:=⟨_,rfl⟩
 rw[hok]at HCK;have HOK:=zq hok;obtain⟨n1,hn1⟩: ∃n,t.joints.length=n:=⟨_,rfl⟩
 obtain⟨n2,hn2⟩: ∃n,t.bals.length=n:=⟨_,rfl⟩
 obtain⟨n3,hn3⟩: ∃n,t.routes.length=n:=⟨_,rfl⟩
 obtain⟨ne,hne⟩: ∃n,t.edges.length=n:=⟨_,rfl⟩
 have HN1:=zq hn1;have HN2:=zq hn2;have HN3:=zq hn3;have k1:n1<=100:=by rw[<-hn1];exact hlg.2.1
 have k2:n2<=100:=by rw[<-hn2];exact hlg.2.2.1
 have k3:n3<=100:=by rw[<-hn3];exact hlg.2.2.2.1
 have HC1:=zq (fun W (hW:Below wa.heap.size wa W)=>(show W.cell? ⟨w.heap.size,1,none⟩=some (.slice a.aj n1 a.cj)from by rw[<-hn1];exact(h0.u hW).cell 1));have HC2:=zq (fun W (hW:Below wa.heap.size wa W)=>(show W.cell? ⟨w.heap.size,2,none⟩=some (.slice a.ab n2 a.cb)from by rw[<-hn2];exact(h0.u hW).cell 2));have HC3:=zq (fun W (hW:Below wa.heap.size wa W)=>(show W.cell? ⟨w.heap.size,3,none⟩=some (.slice a.ar n3 a.cr)from by rw[<-hn3];exact(h0.u hW).cell 3));have HC0:=zq (fun W (hW:Below wa.heap.size wa W)=>(show W.cell? ⟨w.heap.size,0,none⟩=some (.slice a.ae ne a.ce)from by rw[<-hne];exact(h0.u hW).cell 0));rw[hne]at HCK;clear hwa hbwa h0 ht hl hcj hlg hV hlgb heo hok hn1 hn2 hn3 hne c0;go_enter Tryz.func39,Tryz.ntmps39;go_upto_region 1 with fail;rw[HWA.out];clear HWA;go_wp2_with (with_reducible refine ldZ 10 (H0.out wa (Below.refl _ _)) ?_);refine HLO.out.mono ?_;rintro e w1 ⟨rfl,hb1⟩;have HB1:=zq hb1;clear hb1 HLO
 cases lg with
 |true=>
  have HF:Hid (V=2):=zq (by rw[<-HV.out];unfold qaE;rw[if_pos HLB.out]);go_wp2;go_ret
  exact⟨by rw[HF.out];rfl,HBA.out _ HB1.out⟩
 |false=>
  have c0:=HC0.out w1 HB1.out;have HA:=zq (HCK.out w1 HB1.out);clear HCK;go_upto_region 3 with fail;go_wp2_with fail;refine HA.out.mono ?_;rintro e w2 ⟨rfl,hb2⟩;have HB2:=tB HB1 hb2;clear hb2 HA c0
  cases ok with
  |false=>
   have HF:Hid (V=1):=zq (by rw[<-HV.out];unfold qaE;rw[if_neg (by rw[HLB.out];decide),if_neg (by rw[HOK.out];decide)]);go_wp2;go_ret
   exact⟨by rw[HF.out];rfl,HBA.out _ HB2.out⟩
  |true=>
   have HR1:Hid ((if qaF (qbl t) n1=0 then(if qaF (balE t) n2=0 then qaF (qa1 t) n3 else qaF (balE t) n2)else qaF (qbl t) n1)=V):=zq (by rw[<-HV.out,<-HN1.out,<-HN2.out,<-HN3.out];unfold qaE;rw[if_neg (c:=longB t=true) (by rw[HLB.out];decide),if_pos HOK.out]);clear HV;have c1:=HC1.out _ HB2.out;go_upto_region 5 with fail;go_wp2;go_loopg [19] n1 (fun kk v wl=> ∃i:Nat,i<=n1/\n1-i<=kk/\v= .int .i64 i/\Hid (qaF (qbl t) i=0)/\Hid (Below wa.heap.size wa wl))
   case atStart=>exact⟨0,by omega,by omega,rfl,zq rfl,HB2⟩
   obtain⟨i,hi,hik,rfl,HF1,HWn1⟩:=hrel;clear c1;by_cases hlt:i<n1;rotate_left
   ·have x1: ¬(i:Int)<n1:=by omega
    obtain rfl:i=n1:=by omega
    have HR2:Hid ((if qaF (balE t) n2=0 then qaF (qa1 t) n3 else qaF (balE t) n2)=V):=zq (by have h_:=HR1.out;rw[if_pos HF1.out]at h_;exact h_);clear hi hik hlt x1;have c2:=HC2.out _ HWn1.out;go_upto_region 12 with fail;go_wp2;go_loopg [32] n2 (fun kk v wl=> ∃i:Nat,i<=n2/\n2-i<=kk/\v= .int .i64 i/\Hid (qaF (balE t) i=0)/\Hid (Below wa.heap.size wa wl))
    case atStart=>exact⟨0,by omega,by omega,rfl,zq rfl,HWn1⟩
    obtain⟨i,hi,hik,rfl,HF2,HWn2⟩:=hrel;clear c2;by_cases hlt:i<n2;rotate_left
    ·have x1: ¬(i:Int)<n2:=by omega
     obtain rfl:i=n2:=by omega
     have HR3:Hid (qaF (qa1 t) n3=V):=zq (by have h_:=HR2.out;rw[if_pos HF2.out]at h_;exact h_);clear hi hik hlt x1;have c3:=HC3.out _ HWn2.out;go_upto_region 19 with fail;go_wp2;go_loopg [45] n3 (fun kk v wl=> ∃i:Nat,i<=n3/\n3-i<=kk/\v= .int .i64 i/\Hid (qaF (qa1 t) i=0)/\Hid (Below wa.heap.size wa wl))
     case atStart=>exact⟨0,by omega,by omega,rfl,zq rfl,HWn2⟩
     obtain⟨i,hi,hik,rfl,HF3,HWn3⟩:=hrel;clear c3;by_cases hlt:i<n3;rotate_left
     ·have x1: ¬(i:Int)<n3:=by omega
      obtain rfl:i=n3:=by omega
      have HVV:Hid (V=0):=zq (by rw[<-HR3.out];exact HF3.out);go_wp2;go_ret
      exact⟨by rw[HVV.out];rfl,HBA.out _ HWn3.out⟩
     obtain⟨x,hx⟩: ∃x,t.routes[i]?=some x:=⟨_,List.getElem?_eq_getElem (by rw[HN3.out];exact hlt)⟩
     have HCA:=zq (otcr_any t a i x wr (HT.out _ (HBA.out _ HWn3.out)) HLT.out HOK.out hx);obtain⟨e,he⟩:=geZ (qa1 t i);rw[he]at HCA;have HE:=zq he;have y0:(0:Int)<=i:=by omega
     have y1:(i:Int)<n3:=by omega
     clear hx he;go_wp2_with (with_reducible refine ldZ 48 (H0.out wr HWn3.out) ?_);refine HCA.out.mono ?_;rintro e_ w5 ⟨rfl,hb5⟩;have HB5:=tB HWn3 hb5;clear hb5 HCA;by_cases hz:e=0;rotate_left
     ·have z1:(e==0)=false:=by simp[hz]
      have z2:(e !=0)=true:=by simp[hz]
      have HFF:Hid (V=e):=zq (by have hf_:=qaQ hlt HF3.out (by rw[HE.out];exact hz);rw[HE.out]at hf_;rw[<-HR3.out];rw[hf_]);go_wp2;go_ret
      exact⟨by rw[HFF.out];rfl,HBA.out _ HB5.out⟩
     subst hz;have HFN:Hid (qaF (qa1 t) (i+1)=0):=zq (by show(if qaF (qa1 t) i=0 then qa1 t i else qaF (qa1 t) i)=0;rw[if_pos HF3.out];exact HE.out);go_wp2;go_roundg (gk-1)
     case measure=>omega
     case rel=>exact⟨i+1,by omega,by omega,by go_num,HFN,HB5⟩
    obtain⟨x,hx⟩: ∃x,t.bals[i]?=some x:=⟨_,List.getElem?_eq_getElem (by rw[HN2.out];exact hlt)⟩
    have HCA:=zq (otcb_any t a i x wr (HT.out _ (HBA.out _ HWn2.out)) HLG.out.1 HLG.out.2.2.1 hx);obtain⟨e,he⟩:=geZ (balE t i);rw[he]at HCA;have HE:=zq he;have y0:(0:Int)<=i:=by omega
    have y1:(i:Int)<n2:=by omega
    clear hx he;go_wp2_with (with_reducible refine ldZ 35 (H0.out wr HWn2.out) ?_);refine HCA.out.mono ?_;rintro e_ w5 ⟨rfl,hb5⟩;have HB5:=tB HWn2 hb5;clear hb5 HCA;by_cases hz:e=0;rotate_left
    ·have z1:(e==0)=false:=by simp[hz]
     have z2:(e !=0)=true:=by simp[hz]
     have HFF:Hid (V=e):=zq (by have hf_:=qaQ hlt HF2.out (by rw[HE.out];exact hz);rw[HE.out]at hf_;rw[<-HR2.out];rw[hf_,if_neg hz]);go_wp2;go_ret
     exact⟨by rw[HFF.out];rfl,HBA.out _ HB5.out⟩
    subst hz;have HFN:Hid (qaF (balE t) (i+1)=0):=zq (by show(if qaF (balE t) i=0 then balE t i else qaF (balE t) i)=0;rw[if_pos HF2.out];exact HE.out);go_wp2;go_roundg (gk-1)
    case measure=>omega
    case rel=>exact⟨i+1,by omega,by omega,by go_num,HFN,HB5⟩
   obtain⟨x,hx⟩: ∃x,t.joints[i]?=some x:=⟨_,List.getElem?_eq_getElem (by rw[HN1.out];exact hlt)⟩
   have HCA:=zq (otcj_any t a i x wr (HT.out _ (HBA.out _ HWn1.out)) HLG.out.1 HLG.out.2.1 HCJ.out hx);obtain⟨e,he⟩:=geZ (qbl t i);rw[he]at HCA;have HE:=zq he;have y0:(0:Int)<=i:=by omega
   have y1:(i:Int)<n1:=by omega
   clear hx he;go_wp2_with (with_reducible refine ldZ 22 (H0.out wr HWn1.out) ?_);refine HCA.out.mono ?_;rintro e_ w5 ⟨rfl,hb5⟩;have HB5:=tB HWn1 hb5;clear hb5 HCA;by_cases hz:e=0;rotate_left
   ·have z1:(e==0)=false:=by simp[hz]
    have z2:(e !=0)=true:=by simp[hz]
    have HFF:Hid (V=e):=zq (by have hf_:=qaQ hlt HF1.out (by rw[HE.out];exact hz);rw[HE.out]at hf_;rw[<-HR1.out];rw[hf_,if_neg hz]);go_wp2;go_ret
    exact⟨by rw[HFF.out];rfl,HBA.out _ HB5.out⟩
   subst hz;have HFN:Hid (qaF (qbl t) (i+1)=0):=zq (by show(if qaF (qbl t) i=0 then qbl t i else qaF (qbl t) i)=0;rw[if_pos HF1.out];exact HE.out);go_wp2;go_roundg (gk-1)
   case measure=>omega
   case rel=>exact⟨i+1,by omega,by omega,by go_num,HFN,HB5⟩
end
section
open Go.RowKit
open Go.Great
def distP (t:Tp3)(p:Ps3):Int:=if p.rev=true then qat t p.edge-p.at_ else p.at_
def posP (t:Tp3)(s:St3)(n:Int):Ps3:=if s.rev=true then⟨s.edge,qat t s.edge-n,true⟩else⟨s.edge,n,false⟩
theorem qga (t:Tp3)(p:Ps3):distP t p=qat t p.edge-qaB t p:=by
 obtain⟨e,a,r⟩:=p
 cases r
 ·show a=qat t e-(qat t e-a)
  omega
 ·rfl
theorem pos_dist (t:Tp3)(p:Ps3)(n:Int):posP t (stepP p) (distP t p+n)=qbg p n:=by
 obtain⟨e,a,r⟩:=p
 cases r
 ·rfl
 ·show(⟨e,qat t e-(qat t e-a+n),true⟩:Ps3)=⟨e,a-n,true⟩
  rw[show qat t e-(qat t e-a+n)=a-n by omega]
theorem dist_begin (t:Tp3)(s:St3):distP t (qbo t s)=0:=by
 obtain⟨e,r⟩:=s
 cases r
 ·rfl
 ·show qat t e-qat t e=0
  omega
theorem dist_ok {t:Tp3}(ht:qav t=true){p:Ps3}(h:onB t p=true):0<=distP t p/\distP t p<=1000000:=by
 obtain⟨h1,h2,h3⟩:=qbh.1 h;have h4:=qaT ht (s:=stepP p) h1;rw[qcc]at h4;have h5:qat t (stepP p).edge=qat t p.edge:=rfl;rw[h5]at h4;unfold distP;split<;>omega
theorem right_w (t:Tp3)(p:Ps3):qa4 t p=(decide (qaE t=0) &&(qas p.edge 0 ((t.edges.length:Int)-1) &&qas p.at_ 0 (qat t p.edge))):=by
 unfold qa4 onB;rw[qc8]
 rfl
theorem qeQ (n a b:Int)(w:World):
  Calls Tryz.prog 141 #[.int .i64 n,.int .i64 a,.int .i64 b] w fun e w'=>e= .returned (.bool (qas n a b))/\w'=w:=by
 unfold qas;by_cases h1:a<=n
 ·by_cases h2:n<=b
  ·rw[decide_eq_true h1,decide_eq_true h2]
   go_enter Tryz.func141,Tryz.ntmps141;go_wp2;go_ret
   exact⟨rfl,rfl⟩
  ·rw[decide_eq_true h1,decide_eq_false h2]
   go_enter Tryz.func141,Tryz.ntmps141;go_wp2;go_ret
   exact⟨rfl,rfl⟩
 ·rw[decide_eq_false h1,Bool.false_and]
  go_enter Tryz.func141,Tryz.ntmps141;go_wp2;go_ret
  exact⟨rfl,rfl⟩
theorem qgy (n a b:Int)(w:World):Calls Tryz.prog 141 #[.int .i64 n,.int .i64 a,.int .i64 b] w fun e w'=>e= .returned (.bool (qas n a b))/\Below w.heap.size w w':=
 (qeQ n a b w).mono fun _ _ ⟨h1,h2⟩=>⟨h1,by rw[h2];exact Below.refl _ _⟩
theorem qes (p:Ps3)(w:World):
  Calls Tryz.prog 142 #[.agg (psA p)] w fun e w'=>e= .returned (.agg (stA13 (stepP p)))/\Below w.heap.size w w':=by
 obtain⟨wa,hwa,hbwa,HWA,HBWA,h0,h1⟩:=bx2Z w 51 (psA p) 30 #[.int .i64 0,.bool false];have c0:wa.cell? ⟨w.heap.size,0,none⟩=some (.int .i64 p.edge):=h0.cell 0;have c2:wa.cell? ⟨w.heap.size,2,none⟩=some (.bool p.rev):=h0.cell 2;have HZ:=zq h1;clear hwa hbwa h0 h1;obtain⟨n,k,r⟩:=p;unfold psA at*;unfold stepP stA13;dsimp only at*;have HR:=zq (qaa HZ.out #[.int .i64 n,.bool r]);have HBF:=zq (qab (g:=w.heap.size+1) HBWA.out (by omega) #[.int .i64 n,.bool r]);go_enter Tryz.func142,Tryz.ntmps142;go_upto_region 1 with fail;rw[HWA.out];clear HWA HBWA;go_wp2_with (with_reducible refine stZ #[.int .i64 n,.bool r] HZ.out ?_);refine roZ HR.out ?_;exact⟨rfl,HBF.out⟩
theorem qdw (t:Tp3)(a:TpA)(p:Ps3)(w:World)(ht:TopR w t a)(hp:onB t p=true)(hok:qav t=true):
  Calls Tryz.prog 143 #[.agg (tpC t a),.agg (psA p)] w fun e w'=>e= .returned (.int .i64 (distP t p))/\Below w.heap.size w w':=by
 have HP:=zq (qbh.1 hp);have HA:=zq (dist_ok hok hp);obtain⟨wa,hwa,hbwa,HWA,HBWA,h0,h1⟩:=bx2Z w 27 (tpC t a) 51 (psA p);obtain⟨e,at_,rv⟩:=p;unfold psA at*;unfold distP at HA⊢;dsimp only at*;have c0:wa.cell? ⟨w.heap.size,0,none⟩=some (.slice a.ae t.edges.length a.ce):=h0.cell 0;have d0:wa.cell? ⟨w.heap.size+1,0,none⟩=some (.int .i64 e):=h1.cell 0;have d1:wa.cell? ⟨w.heap.size+1,1,none⟩=some (.int .i64 at_):=h1.cell 1;have d2:wa.cell? ⟨w.heap.size+1,2,none⟩=some (.bool rv):=h1.cell 2;have HE1:=zq (ht.e.under hbwa);clear hwa hbwa h0 h1 hp ht hok;have hpp:=HP.out.1;unfold edgeB at hpp;simp only[Bool.and_eq_true,decide_eq_true_eq]at hpp;obtain⟨hp1,hp2⟩:=hpp;obtain⟨k,rfl⟩: ∃k:Nat,e=k:=⟨e.toNat,by omega⟩
 obtain⟨be,oe,hae,ce⟩:=HE1.out.edge (show k<t.edges.length by omega);obtain⟨q,hq⟩:=geZ (t.edges.getD k 0);have hq2:qat t k=q:=hq;rw[hq2]at HA⊢;rw[hq]at ce;rw[hae]at c0;obtain⟨n,hn⟩:=geZ (t.edges.length);rw[hn]at c0 hp2;clear hq hq2 hae hn HE1 HP
 cases rv with
 |false=>
  go_enter Tryz.func143,Tryz.ntmps143;go_upto_region 1 with fail;rw[HWA.out];clear HWA;go_wp2;go_ret
  exact⟨rfl,HBWA.out⟩
 |true=>
  have hwr1:IntKind.i64.wrap (q-at_)=q-at_:=by have h_:=HA.out;rw[if_pos rfl]at h_;rw[IntKind.wrap_i64];omega
  go_enter Tryz.func143,Tryz.ntmps143;go_upto_region 1 with fail;rw[HWA.out];clear HWA;go_wp2;go_quiet (fail);go_wp2;go_ret
  exact⟨by first|rfl|simp,by first|exact qac HBWA.out _|(rw[World.drewN_drewN];exact qac HBWA.out _)|exact HBWA.out⟩
theorem plpos_any (t:Tp3)(a:TpA)(s:St3)(n:Int)(w:World)(ht:TopR w t a)(hs:edgeB t s.edge=true)(hok:qav t=true)(hn0:0<=n)(hn:n<=qat t s.edge):
  Calls Tryz.prog 144 #[.agg (tpC t a),.agg (stA13 s),.int .i64 n] w fun e w'=>e= .returned (.agg (psA (posP t s n)))/\Below w.heap.size w w':=by
 have HQ:=zq (qaT hok hs);obtain⟨wa,hwa,hbwa,HWA,HBWA,h0,h1,h2⟩:=bx3Z w 27 (tpC t a) 30 (stA13 s) 51 #[.int .i64 0,.int .i64 0,.bool false];obtain⟨e,rv⟩:=s;unfold posP psA;dsimp only at*;have c0:wa.cell? ⟨w.heap.size,0,none⟩=some (.slice a.ae t.edges.length a.ce):=h0.cell 0;have d0:wa.cell? ⟨w.heap.size+1,0,none⟩=some (.int .i64 e):=h1.cell 0;have d1:wa.cell? ⟨w.heap.size+1,1,none⟩=some (.bool rv):=h1.cell 1;have HZ:=zq h2;have HE1:=zq (ht.e.under hbwa);clear hwa hbwa h0 h1 h2 ht hok;unfold edgeB at hs;simp only[Bool.and_eq_true,decide_eq_true_eq]at hs;obtain⟨hp1,hp2⟩:=hs;obtain⟨k,rfl⟩: ∃k:Nat,e=k:=⟨e.toNat,by omega⟩
 obtain⟨be,oe,hae,ce⟩:=HE1.out.edge (show k<t.edges.length by omega);obtain⟨q,hq⟩:=geZ (t.edges.getD k 0);have hq2:qat t k=q:=hq;rw[qcc]at HQ;dsimp only at HQ hn;rw[hq2]at HQ hn⊢;rw[hq]at ce;rw[hae]at c0;obtain⟨m,hm⟩: ∃n,t.edges.length=n:=⟨_,rfl⟩
 rw[hm]at c0 hp2;have hwr1:IntKind.i64.wrap (q-n)=q-n:=by have h_:=HQ.out;rw[IntKind.wrap_i64];omega
 clear hq hq2 hae hm HE1 HQ hn hn0
 cases rv with
 |false=>
  have HR:=zq (qaa HZ.out #[.int .i64 (k:Int),.int .i64 n,.bool false]);have HBF:=zq (qab (g:=w.heap.size+1+1) HBWA.out (by omega) #[.int .i64 (k:Int),.int .i64 n,.bool false]);go_enter Tryz.func144,Tryz.ntmps144;go_upto_region 1 with fail;rw[HWA.out];clear HWA HBWA;go_wp2_with (with_reducible refine stZ #[.int .i64 (k:Int),.int .i64 n,.bool false] HZ.out ?_);refine roZ HR.out ?_;exact⟨rfl,HBF.out⟩
 |true=>
  have HR:=zq (qaa HZ.out #[.int .i64 (k:Int),.int .i64 (q-n),.bool true]);have HBF:=zq (qab (g:=w.heap.size+1+1) HBWA.out (by omega) #[.int .i64 (k:Int),.int .i64 (q-n),.bool true]);go_enter Tryz.func144,Tryz.ntmps144;go_upto_region 1 with fail;rw[HWA.out];clear HWA HBWA;go_wp2_with (with_reducible refine stZ #[.int .i64 (k:Int),.int .i64 (q-n),.bool true] HZ.out ?_);refine roZ HR.out ?_;exact⟨rfl,HBF.out⟩
theorem opl_right (t:Tp3)(a:TpA)(p:Ps3)(w:World)(ht:TopR w t a)(hlt:qaH t=true)(hcj:t.joints.length<=a.cj):
  Calls Tryz.prog 140 #[.agg (tpC t a),.agg (psA p)] w fun e w'=>e= .returned (.bool (qa4 t p))/\Below w.heap.size w w':=by
 obtain⟨cE,hcE⟩: ∃e,qaE t=e:=⟨_,rfl⟩
 have HNN:=zq (qax hlt);have HCK:=zq (fun W (hW:Below w.heap.size w W)=>qfB t a W (ht.under hW) hlt hcj);rw[hcE]at HCK;obtain⟨wa,hwa,hbwa,HWA,HBWA,h0,h1⟩:=bx2Z w 27 (tpC t a) 51 (psA p);have HT:=zq ht;have HW1:=zq (fun W=>qgy p.edge 0 ((t.edges.length:Int)-1) W);have HW2:=zq (fun W=>qgy p.at_ 0 (qat t p.edge) W);have HR:Hid (qa4 t p=(decide (cE=0) &&(qas p.edge 0 ((t.edges.length:Int)-1) &&qas p.at_ 0 (qat t p.edge)))):=zq (by rw[right_w,hcE]);obtain⟨q,hq⟩: ∃x,qat t p.edge=x:=⟨_,rfl⟩
 have HBX:=zq (show qas p.edge 0 ((t.edges.length:Int)-1)=true->0<=p.edge/\p.edge<t.edges.length from fun h=>by rw[<-qc8]at h;unfold edgeB at h;simpa using h);obtain⟨b2,hb2⟩: ∃x,qas p.edge 0 ((t.edges.length:Int)-1)=x:=⟨_,rfl⟩
 rw[hq]at HW2 HR;obtain⟨b3,hb3⟩: ∃x,qas p.at_ 0 q=x:=⟨_,rfl⟩
 rw[hb2]at HW1 HR HBX;rw[hb3]at HW2 HR;have HQ:=zq hq;have HH0:=zq h0;have HH1:=zq h1;clear hwa hbwa h0 h1 ht hlt hcj hcE hb2 hb3 hq;obtain⟨pe,pa,pr⟩:=p;dsimp only at*;unfold psA at*;dsimp only at*;have hml:t.edges.length<=100:=HNN.out.1;obtain⟨m,hm⟩: ∃x,t.edges.length=x:=⟨_,rfl⟩
 rw[hm]at hml HW1;have hwr1:IntKind.i64.wrap ((m:Int)-1)=(m:Int)-1:=by rw[IntKind.wrap_i64];omega
 have HCE0:Hid (∀W,Has W (w.heap.size) 27 (tpC t a)->W.cell? ⟨w.heap.size,0,none⟩=some (.slice a.ae m a.ce)):=zq fun W hW=>by
  have c_:W.cell? ⟨w.heap.size,0,none⟩=some (.slice a.ae t.edges.length a.ce):=hW.cell 0;rw[hm]at c_;exact c_
 have HM:=zq hm;clear hm hml;by_cases z0:cE=0;rotate_left
 ·have g0:decide (cE=0)=false:=decide_eq_false z0
  have g1:(cE==0)=false:=by simp[z0]
  rw[g0]at HR;go_enter Tryz.func140,Tryz.ntmps140;go_upto_region 1 with fail;rw[HWA.out];clear HWA;refine wp_region_held_drew (S:=(fun W_=>Has W_ (w.heap.size+1) 51 #[.int .i64 pe,.int .i64 pa,.bool pr]/\Has W_ (w.heap.size) 27 (tpC t a)/\Below w.heap.size w W_)) (by kernel_rfl) ?_ (fun hHeld=>?_)
  ·exact⟨HH1.out.draw,HH0.out.draw,qaf HBWA.out⟩
  refine tlZ 0 5 w.heap.size (tpC t a) (fun _ ⟨_,h_,_⟩=>h_) (h:=?_);simp only[lyZ];refine rdZ [1] ?_;refine acZ (some 6) (fun K hK=>?_) ?_
  ·go_simp
   obtain⟨s0,s1,s2⟩:=hHeld;refine(HCK.out _ s2).mono ?_;rintro e_ v1 ⟨rfl,hbs⟩;go_wp2_with fail;refine hK.out _ _ ?_ (fun hHeld=>?_)
   ·exact⟨s0.u hbs,s1.u hbs,bu s2 hbs⟩
   clear hK K s0 s1 s2
   try simp only[lyZ]
   refine tkZ 2 7 (h:=?_);simp only[lyZ];refine tkZ 3 8 (h:=?_);simp only[lyZ];refine skZ 4 9 (h:=?_);simp only[lyZ];refine skZ 5 10 (h:=?_);simp only[lyZ];refine skZ 6 11 (h:=?_);simp only[lyZ];refine skZ 7 12 (h:=?_);simp only[lyZ];refine skZ 8 13 (h:=?_);simp only[lyZ];refine skZ 9 14 (h:=?_);simp only[lyZ];refine skZ 10 15 (h:=?_);simp only[lyZ];refine tkZ 11 16 (h:=?_);simp only[lyZ];refine tkZ 12 17 (h:=?_);simp only[lyZ];refine skZ 13 18 (h:=?_);simp only[lyZ];refine skZ 14 19 (h:=?_);simp only[lyZ];refine skZ 15 20 (h:=?_);simp only[lyZ];refine skZ 16 21 (h:=?_);simp only[lyZ];refine skZ 17 22 (h:=?_);simp only[lyZ];refine skZ 18 23 (h:=?_);simp only[lyZ];refine skZ 19 24 (h:=?_);simp only[lyZ];refine skZ 20 25 (h:=?_);simp only[lyZ];refine skZ 21 26 (h:=?_);simp only[lyZ];refine tkZ 22 27 (h:=?_);simp only[lyZ];refine tkZ 23 4 (h:=?_);simp only[lyZ];refine dnZ ?_;have HE:=zq hHeld.2.2;clear hHeld;go_wp2;go_ret
   rw[HR.out];exact⟨by first|rfl|simp,HE.out⟩
  exact AllReadyH.nil
 subst z0;rw[show decide ((0:Int)=0)=true from rfl]at HR
 cases b2 with
 |false=>
  go_enter Tryz.func140,Tryz.ntmps140;go_upto_region 1 with fail;rw[HWA.out];clear HWA;refine wp_region_held_drew (S:=(fun W_=>Has W_ (w.heap.size+1) 51 #[.int .i64 pe,.int .i64 pa,.bool pr]/\Has W_ (w.heap.size) 27 (tpC t a)/\Below w.heap.size w W_)) (by kernel_rfl) ?_ (fun hHeld=>?_)
  ·exact⟨HH1.out.draw,HH0.out.draw,qaf HBWA.out⟩
  refine tlZ 0 5 w.heap.size (tpC t a) (fun _ ⟨_,h_,_⟩=>h_) (h:=?_);simp only[lyZ];refine rdZ [1] ?_;refine acZ (some 6) (fun K hK=>?_) ?_
  ·go_simp
   obtain⟨s0,s1,s2⟩:=hHeld;refine(HCK.out _ s2).mono ?_;rintro e_ v1 ⟨rfl,hbs⟩;go_wp2_with fail;refine hK.out _ _ ?_ (fun hHeld=>?_)
   ·exact⟨s0.u hbs,s1.u hbs,bu s2 hbs⟩
   clear hK K s0 s1 s2
   try simp only[lyZ]
   refine tkZ 2 7 (h:=?_);simp only[lyZ];refine tkZ 3 8 (h:=?_);simp only[lyZ];refine tkZ 4 9 (h:=?_);simp only[lyZ];refine tqZ 5 10 (fun w_ hSw=>(show w_.cell? ⟨w.heap.size+1,0,none⟩=some (.int .i64 pe:Value)from hSw.1.cell 0)) (h:=?_);simp only[lyZ];refine tkZ 6 11 (h:=?_);simp only[lyZ];refine tqZ 7 12 (fun w_ hSw=>(show w_.cell? ⟨w.heap.size,0,none⟩=some (.slice a.ae m a.ce:Value)from HCE0.out w_ hSw.2.1)) (h:=?_);simp only[lyZ];refine tkZ 8 13 (h:=?_);simp only[lyZ];refine tkZ 9 14 (h:=?_);simp only[lyZ];refine rdZ [10] ?_;refine acZ (some 15) (fun K hK=>?_) ?_
   ·go_simp
    obtain⟨s0,s1,s2⟩:=hHeld;refine(HW1.out _).mono ?_;rintro e_ v2 ⟨rfl,hbs⟩;go_wp2_with fail;refine hK.out _ _ ?_ (fun hHeld=>?_)
    ·exact⟨s0.u hbs,s1.u hbs,bu s2 hbs⟩
    clear hK K s0 s1 s2
    try simp only[lyZ]
    refine tkZ 11 16 (h:=?_);simp only[lyZ];refine tkZ 12 17 (h:=?_);simp only[lyZ];refine skZ 13 18 (h:=?_);simp only[lyZ];refine skZ 14 19 (h:=?_);simp only[lyZ];refine skZ 15 20 (h:=?_);simp only[lyZ];refine skZ 16 21 (h:=?_);simp only[lyZ];refine skZ 17 22 (h:=?_);simp only[lyZ];refine skZ 18 23 (h:=?_);simp only[lyZ];refine skZ 19 24 (h:=?_);simp only[lyZ];refine skZ 20 25 (h:=?_);simp only[lyZ];refine skZ 21 26 (h:=?_);simp only[lyZ];refine tkZ 22 27 (h:=?_);simp only[lyZ];refine tkZ 23 4 (h:=?_);simp only[lyZ];refine dnZ ?_;have HE:=zq hHeld.2.2;clear hHeld;go_wp2;go_ret
    rw[HR.out];exact⟨by first|rfl|simp,HE.out⟩
   exact AllReadyH.nil
  exact AllReadyH.nil
 |true=>
  have hed:=HBX.out rfl;obtain⟨en,hen⟩: ∃e:Nat,pe=e:=⟨pe.toNat,by omega⟩
  have hel:en<t.edges.length:=by omega
  obtain⟨bke,oe,hae,ce⟩:=(HT.out.under HBWA.out).e.edge hel;have hqq:t.edges.getD en 0=q:=by rw[<-HQ.out,hen];rfl
  rw[hqq]at ce;have HCE2:Hid (∀W,Has W (w.heap.size) 27 (tpC t a)->W.cell? ⟨w.heap.size,0,none⟩=some (.slice (some ⟨bke,oe,none⟩) m a.ce)):=zq fun W hW=>by rw[<-hae];exact HCE0.out W hW
  have HCQ:Hid (∀W,Below w.heap.size w W->W.cell? ⟨bke,oe+en,none⟩=some (.int .i64 q)):=zq fun W hW=>by
   obtain⟨b_,o_,e_,h_⟩:=(HT.out.under hW).e.edge hel;rw[hae]at e_;injection e_ with e_
   injection e_ with e1_ e2_ _
   subst e1_ e2_;rw[hqq]at h_;exact h_
  have y2:(0:Int)<=en:=by omega
  have y3:(en:Int)<m:=by rw[<-HM.out];omega
  subst hen;clear hed hel hae ce hqq HCE0 HBX HQ HM;go_enter Tryz.func140,Tryz.ntmps140;go_upto_region 1 with fail;rw[HWA.out];clear HWA;refine wp_region_held_drew (S:=(fun W_=>Has W_ (w.heap.size+1) 51 #[.int .i64 (en:Nat),.int .i64 pa,.bool pr]/\Has W_ (w.heap.size) 27 (tpC t a)/\Below w.heap.size w W_)) (by kernel_rfl) ?_ (fun hHeld=>?_)
  ·exact⟨HH1.out.draw,HH0.out.draw,qaf HBWA.out⟩
  refine tlZ 0 5 w.heap.size (tpC t a) (fun _ ⟨_,h_,_⟩=>h_) (h:=?_);simp only[lyZ];refine rdZ [1] ?_;refine acZ (some 6) (fun K hK=>?_) ?_
  ·go_simp
   obtain⟨s0,s1,s2⟩:=hHeld;refine(HCK.out _ s2).mono ?_;rintro e_ v1 ⟨rfl,hbs⟩;go_wp2_with fail;refine hK.out _ _ ?_ (fun hHeld=>?_)
   ·exact⟨s0.u hbs,s1.u hbs,bu s2 hbs⟩
   clear hK K s0 s1 s2
   try simp only[lyZ]
   refine tkZ 2 7 (h:=?_);simp only[lyZ];refine tkZ 3 8 (h:=?_);simp only[lyZ];refine tkZ 4 9 (h:=?_);simp only[lyZ];refine tqZ 5 10 (fun w_ hSw=>(show w_.cell? ⟨w.heap.size+1,0,none⟩=some (.int .i64 (en:Nat):Value)from hSw.1.cell 0)) (h:=?_);simp only[lyZ];refine tkZ 6 11 (h:=?_);simp only[lyZ];refine tqZ 7 12 (fun w_ hSw=>(show w_.cell? ⟨w.heap.size,0,none⟩=some (.slice (some ⟨bke,oe,none⟩) m a.ce:Value)from HCE2.out w_ hSw.2.1)) (h:=?_);simp only[lyZ];refine tkZ 8 13 (h:=?_);simp only[lyZ];refine tkZ 9 14 (h:=?_);simp only[lyZ];refine rdZ [10] ?_;refine acZ (some 15) (fun K hK=>?_) ?_
   ·go_simp
    obtain⟨s0,s1,s2⟩:=hHeld;refine(HW1.out _).mono ?_;rintro e_ v2 ⟨rfl,hbs⟩;go_wp2_with fail;refine hK.out _ _ ?_ (fun hHeld=>?_)
    ·exact⟨s0.u hbs,s1.u hbs,bu s2 hbs⟩
    clear hK K s0 s1 s2
    try simp only[lyZ]
    refine tkZ 11 16 (h:=?_);simp only[lyZ];refine tkZ 12 17 (h:=?_);simp only[lyZ];refine tkZ 13 18 (h:=?_);simp only[lyZ];refine tqZ 14 19 (fun w_ hSw=>(show w_.cell? ⟨w.heap.size+1,1,none⟩=some (.int .i64 pa:Value)from hSw.1.cell 1)) (h:=?_);simp only[lyZ];refine tkZ 15 20 (h:=?_);simp only[lyZ];refine tqZ 16 21 (fun w_ hSw=>(show w_.cell? ⟨w.heap.size,0,none⟩=some (.slice (some ⟨bke,oe,none⟩) m a.ce:Value)from HCE2.out w_ hSw.2.1)) (h:=?_);simp only[lyZ];refine tkZ 17 22 (h:=?_);simp only[lyZ];refine tqZ 18 23 (fun w_ hSw=>(show w_.cell? ⟨w.heap.size+1,0,none⟩=some (.int .i64 (en:Nat):Value)from hSw.1.cell 0)) (h:=?_);simp only[lyZ];refine tkZ 19 24 (h:=?_);simp only[lyZ];refine tqZ 20 25 (fun w_ hSw=>HCQ.out w_ hSw.2.2) (h:=?_);simp only[lyZ];refine rdZ [21] ?_;refine acZ (some 26) (fun K hK=>?_) ?_
    ·go_simp
     obtain⟨s0,s1,s2⟩:=hHeld;refine(HW2.out _).mono ?_;rintro e_ v3 ⟨rfl,hbs⟩;go_wp2_with fail;refine hK.out _ _ ?_ (fun hHeld=>?_)
     ·exact⟨s0.u hbs,s1.u hbs,bu s2 hbs⟩
     clear hK K s0 s1 s2
     try simp only[lyZ]
     refine tkZ 22 27 (h:=?_);simp only[lyZ];refine tkZ 23 4 (h:=?_);simp only[lyZ];refine dnZ ?_;have HE:=zq hHeld.2.2;clear hHeld;go_wp2;go_ret
     rw[HR.out];exact⟨by first|rfl|simp,HE.out⟩
    exact AllReadyH.nil
   exact AllReadyH.nil
  exact AllReadyH.nil
theorem oixs_any (l:List St3)(v:St3)(A:Option Addr)(n c:Nat)(w:World)(hs:SlO stC 2 w A n c l)(hbig:n<=1048576):
  Calls Tryz.prog 107 #[.slice A n c,.agg (stA13 v)] w fun e w'=>e= .returned (.int .i64 (idxL (eqS v) l))/\Below w.heap.size w w':=by
 obtain⟨wa,hwa,hbwa,HWA,HBWA,h0⟩:=bx1Z w 30 (stA13 v);have HN:Hid (l.length=n):=zq hs.1;have HW:=zq (hs.under hbwa);have c0:wa.cell? ⟨w.heap.size,0,none⟩=some (.int .i64 v.edge):=h0.cell 0;have c1:wa.cell? ⟨w.heap.size,1,none⟩=some (.bool v.rev):=h0.cell 1;have HQ:=zq (fun x W=>eq_st13 v x W);clear hs hwa hbwa h0;have x0:(0:Int)<=n:=by omega
 obtain⟨R,hR⟩:=geZ (idxL (eqS v) l);have HR:=zq hR;rw[hR];clear hR;unfold stA13 at*;go_enter Tryz.func107,Tryz.ntmps107;go_upto_region 1 with fail;rw[HWA.out];clear HWA;go_wp2;go_loopg [8] n (fun kk s8 wl=> ∃j q:Nat,j<=n/\n-j<=kk/\s8= .int .i64 j/\Hid (∀i x,i<j->l[i]?=some x->eqS v x=false)/\wl=wa.drewN q)
 case atStart=>exact⟨0,0,by omega,by omega,rfl,zq fun i x h=>absurd h (by omega),rfl⟩
 obtain⟨j,q,hj,hjk,rfl,HNO,rfl⟩:=hrel;by_cases hlt:j<n
 ·obtain⟨x,hx⟩:=glZ l (j) (by rw[HN.out];omega)
  obtain⟨bk,off,rfl,d0,d1⟩:=HW.out.step hx;have HX:=zq hx;have y0:(0:Int)<=j:=by omega
  have y1:(j:Int)<n:=by omega
  have q1:=HQ.out x;clear hx;generalize hb:eqS v x=b at*;have HBE:=zq hb;clear hb;go_upto_region 4 with fail
  cases b with
  |true=>
   have HF:Hid (R=j):=zq (by rw[<-HR.out];exact qbE HX.out HBE.out HNO.out);go_quiet (fail);go_wp2;go_ret
   exact⟨by rw[HF.out];rfl,by first|exact qac HBWA.out _|(rw[World.drewN_drewN];exact qac HBWA.out _)⟩
  |false=>
   have HN2:Hid (∀i y,i<j+1->l[i]?=some y->eqS v y=false):=zq fun i y hi hy=>by
    by_cases h:i=j
    ·subst h;rw[HX.out]at hy;cases hy;exact HBE.out
    ·exact HNO.out i y (by omega) hy
   go_quiet (fail);go_wp2;go_roundg (gk-1)
   case measure=>omega
   case rel=>exact⟨j+1,_,by omega,by omega,by go_num,HN2,by first|rfl|rw[World.drewN_drewN]⟩
 ·have y1: ¬(j:Int)<n:=by omega
  have HF:Hid (R= -1):=zq (by rw[<-HR.out];exact qbc fun i y hi hy=>HNO.out i y (by have:=HN.out;omega) hy);go_wp2;go_ret
  exact⟨by rw[HF.out];rfl,qac HBWA.out _⟩
end
section
open Go.RowKit Go.Shelf
open Go.Maps (has)
attribute [local go_sem] Oper.semAt_some
/-! What has come, and what is still to come. -/
def Coll13 (D:DataW Unit)(left:Lit->Bool)(ss:List St3):Prop:=ss.Nodup/\ ∀x,x∈ss↔(wfS x/\has D (stK x)=true/\left (stK x)=false)
theorem Coll13.start (D:DataW Unit):Coll13 D (has D) []:=⟨List.nodup_nil,fun x=>by cases has D (stK x)<;>simp⟩
theorem Coll13.step {D:DataW Unit}{left:Lit->Bool}{ss:List St3}(h:Coll13 D left ss){x:St3}(hx:wfS x){y:DataW Unit}(hlk:left (stK x)=true)(hat: ∀zd,D.atKey (stK x) zd=y):Coll13 D (fun z=>left z &&!z.sameKey (stK x)) (ss++[x]):=by
 have hhas:has D (stK x)=true:=Go.Maps.has_true_of_atKey hat
 have hnew:x∉ss:=fun hm=>by have:=((h.2 x).1 hm).2.2;rw[hlk]at this;cases this
 refine⟨List.nodup_append.2 ⟨h.1,by simp,fun a ha b hb=>by simp at hb;subst hb;exact fun e=>hnew (e▸ha)⟩,fun y=>?_⟩;rw[List.mem_append,List.mem_singleton,h.2 y]
 constructor
 ·rintro(⟨h1,h2,h3⟩|rfl)
  ·exact⟨h1,h2,by show(left (stK y) &&!(stK y).sameKey (stK x))=false;rw[h3];rfl⟩
  ·exact⟨hx,hhas,by show(left (stK y) &&!(stK y).sameKey (stK y))=false;rw[stK_same hx hx,(qaX _ _).2 rfl];simp⟩
 ·rintro⟨h1,h2,h3⟩
  by_cases e:y=x
  ·exact .inr e
  ·refine .inl ⟨h1,h2,?_⟩
   have e2:eqS y x=false:=by
    cases h4:eqS y x with
    |false=>rfl
    |true=>exact absurd ((qaX _ _).1 h4) e
   have h4:(left (stK y) &&!(stK y).sameKey (stK x))=false:=h3;rw[stK_same h1 hx,e2]at h4
   simpa using h4
def encT (x:St3):Array Value:=#[.agg (stA13 x)]
theorem stA_inj {a b:St3}(h:Value.agg (stA13 a)=Value.agg (stA13 b)):a=b:=by
 obtain⟨a1,a2⟩:=a;obtain⟨b1,b2⟩:=b;unfold stA13 at h;simp at h;obtain⟨rfl,rfl⟩:=h
 rfl
theorem otkeys_stops (n:Nat)(hn1:1<=n)(Bm b nn:Nat)(D:DataW Unit)(w:World)(hm:Has w Bm 143 #[.map (some b)])(hown:w.ownsMap Tryz.prog 30 (plainElem Tryz.prog 4) b nn D):
  SeqStopsK Fence.wide n Tryz.prog 169 #[.pointer (some ⟨Bm,0,none⟩)] encT KeepsWalks (fun ss=>ss.Nodup/\ ∀x,x∈ss↔(wfS x/\has D (stK x)=true)) (fun _=>True) (Go.Maps.size D) w:=fun l J Jx W hW hJ hJx hY h0=>by
 refine callsIn_of_wp Tryz.func169 rfl trivial ?_ rfl;simp only[Tryz.ntmps169,List.size_toArray,List.length_cons,List.length_nil,Nat.reduceAdd,Nat.reduceSub,Array.replicate_succ,Array.replicate_zero,List.push_toArray,List.append_toArray,List.nil_append,List.cons_append];have hmW:=hm.u hW;have c0:W.cell? ⟨Bm,0,none⟩=some (.map (some b)):=hmW.cell 0;have hownW:W.ownsMap Tryz.prog 30 (plainElem Tryz.prog 4) b nn D:=hown.kept (qaK hW (Nat.le_refl _) none) (by simp);clear hm hown hmW
 gi_wp2_with (first
  |(gi_at_range;refine wpListIn_range_own _ rfl _ 143 rfl 30 4 qda Tryz.underlying143 _ b nn _ rfl hownW ?_;intro w0 hrg0 hg0 hs0)
  |gi_in)
 go_frame
 gi_loopw [3] (fun _ wr=> ∃(left:Lit->Bool) (cnt:Nat) (ss:List St3),wr.ranges Tryz.prog 30 (plainElem Tryz.prog 4) b W.heap.size nn D left cnt/\ss.length+cnt<=Go.Maps.size D/\Coll13 D left ss/\J ss wr)
  (fun _ wr=>wr.rangeLeft b W.heap.size)
 case atStart=>
  exact⟨_,_,[],hrg0,by simp,Coll13.start D,hJ [] W w0 none h0 hg0 (fun r e=>by cases e)⟩
 obtain⟨left,cnt,ss,hrg,hcs,hC,hJs⟩:=hrel
 gi_wp2_with (first
  |(gi_at_next;refine wpListIn_next_ranges _ rfl _ rfl 30 qda (plainElem Tryz.prog 4) (fun x:St3=>Value.agg (stA13 x)) id (fun key kl hk=>by obtain⟨x,hx,_⟩:=qeK hk;exact⟨x,hx⟩) (fun v _ _=>⟨v,rfl⟩) b W.heap.size nn _ _ _ rfl hrg ?_ ?_)
  |gi_in)
 ·intro hc0 hl0
  gi_wp2
  go_end0
  exact⟨⟨_,rfl⟩,.inl ⟨ss,⟨hC.1,fun x=>by rw[hC.2 x,hl0];simp⟩,hJs⟩⟩
 ·intro x c kl yd yp w2 cnt2 hkey hlk hv hat hrg2 hlt hg2 hs2 hen
  obtain⟨x',ex,hwf,rfl⟩:=qeK hkey;obtain rfl:x=x':=stA_inj ex;have hJ2:J ss w2:=hJ ss wr w2 (some W.heap.size) hJs hg2 (fun r e=>by cases e;exact⟨Nat.le_refl _,hrg.iter_walk⟩);have hJ3:J ss (w2.alloc (.cells #[.int .i64 x.edge,.bool x.rev] 30)):=hJ ss w2 _ none hJ2 (World.grownBy_alloc w2 _ none) (fun r e=>by cases e);have hrg3:(w2.alloc (.cells #[.int .i64 x.edge,.bool x.rev] 30)).ranges Tryz.prog 30 (plainElem Tryz.prog 4) b W.heap.size nn D (fun z=>left z &&!z.sameKey (stK x)) cnt2:=hrg2.alloc _;obtain⟨fn,tmps,assign,body,hy,hR⟩:=hY ss x _ hJ3 (by omega);have hC2:=hC.step hwf hlk hat
  have HC2:=zq hC2;have HRG:=zq hrg;have HRG3:=zq hrg3;have HLT:=zq hlt;have HCS:=zq hcs;unfold encT stA13 at hy;unfold stA13 at hen;have hc0:(w2.alloc (.cells #[.int .i64 x.edge,.bool x.rev] 30)).cell? ⟨w2.heap.size,0,none⟩=some (.int .i64 x.edge):=(Has.made w2 _ #[.int .i64 x.edge,.bool x.rev]).cell 0;have hc1:(w2.alloc (.cells #[.int .i64 x.edge,.bool x.rev] 30)).cell? ⟨w2.heap.size,1,none⟩=some (.bool x.rev):=(Has.made w2 _ #[.int .i64 x.edge,.bool x.rev]).cell 1;clear hs2 hC2 hrg hrg3 hrg2 hlt hcs hC hkey ex hv hat hJs hJ2 hg2
  gi_wp2
  refine hR.mono ?_;rintro e W3 (⟨rfl,hJ4,hk4⟩|⟨rfl,hJx4⟩)
  ·gi_wp2
   have hrg4:=HRG3.out.of_walks hk4;go_roundw
   case rel=>exact⟨_,cnt2,ss++[x],hrg4,by have h1:=HCS.out;have h2:=HLT.out;simp;omega,HC2.out,hJ4⟩
   case measure=>rw[hrg4.left_eq,HRG.out.left_eq];exact HLT.out
  ·gi_wp2
   refine bodyPost_ret (results_none rfl _ _ _) rfl ?_;exact⟨⟨_,rfl⟩,.inr ⟨ss++[x],trivial,hJx4⟩⟩
theorem otkeys_any (mb:Option Nat)(w:World):
  Calls Tryz.prog 95 #[.map mb] w fun e w'=>e= .returned (.func (.func 169) #[] #[.pointer (some ⟨w.heap.size,0,none⟩)])/\w'=w.alloc (.cells #[.map mb] 143):=by
 go_enter Tryz.func95,Tryz.ntmps95;go_wp2;go_ret
 exact⟨rfl,rfl⟩
end
section
open Go.RowKit Go.Shelf
attribute [local go_sem] Oper.semAt_some
theorem wpIn_range13 {F:Fence}{n:Nat}{P:Program}{α:Type}{g:Operand}{ps:Array Tmp}{assign body:Code}{Q:Exit->Act->World->Prop}{a:Act}{w:World}
  (hro:F.round=none) (h1:1<=n) {gf:Nat} {lb:Array Value} (hg:a.eval g= .func (.func gf) #[] lb) (hFg:F.fn gf) (eg: ∀args w,(callFunc gf args).run P w= .ok (.enter gf args) w)
  {encs:α->Array Value} {S:List α->Prop} {N:Nat} {w0:World} (hseq:SeqStopsK F (n-1) P gf lb encs KeepsWalks S (fun _=>True) N w0)
  (hb0:Below w0.heap.size w0 w) (hps: ∀x,(encs x).size=ps.size)
  (I:List α->World->Prop) (hI:OwnFrom w.heap.size I) (h0:I [] w) (ob:α->Obj) (a₁:α->Nat->Act)
  (hassign: ∀(l:Nat) (x:α) (W:World) (K:Act->World->Prop),K (a₁ x W.heap.size) (W.alloc (ob x))->
   assign.wpIn (F.inRound l) (n-1-1) P (Exit.then K (fun _ _ _=>False)) {tmps:=(ps.zip (encs x)).foldl (fun t (p,v)=>t.setIfInBounds p v) a.tmps,defers:=[]} W)
  (hbody: ∀(l:Nat) (pre:List α) (x:α) (v:Nat) (W:World),I pre W->W.heap[v]?=some (ob x)->w.heap.size<=v->pre.length<N->body.wpIn (F.inRound l) (n-1-1) P (ownPostK KeepsWalks I (fun _ _ _=>False) (pre++[x]) W) (a₁ x v) W)
  (hdone: ∀(D:Nat) (xs:List α) (W:World),w.heap.size<=D->S xs->I xs W->W.heap[D]?=some (.deferred (some []))->Q .normal {a with defers:= {target:= .collected D,args:=#[]} ::a.defers} W):
  (Code.rangeFunc g ps assign body).wpIn F n P Q a w:=by
 refine wpIn_rangeFunc ?_;intro fn hfn;rw[hro];obtain⟨rec,hrec⟩: ∃rec:LoopState->Option Code->Loop,rec=fun st pe=> {state:=st,pending:=pe,fn,tmps:=a.tmps,params:=ps,assign,body,defers:=w.heap.size} :=⟨_,rfl⟩
 obtain⟨W1,hW1⟩:=geZ ((w.alloc (.deferred (some []))).alloc (.loop (rec .ready none)));have hL1:W1.heap[w.heap.size+1]?=some (.loop (rec .ready none)):=by
  rw[<-hW1];have:=World.alloc_heap_new (w.alloc (.deferred (some []))) (.loop (rec .ready none));rwa [World.size_alloc]at this
 have hK1:W1.heap[w.heap.size]?=some (.deferred (some [])):=by
  rw[<-hW1];exact(Below.heap_alloc _ _ _ (by simp)).trans (World.alloc_heap_new w _)
 have hI1:I [] W1:=by rw[<-hW1];exact hI.alloc _ (hI.alloc _ h0)
 have hb1:Below w0.heap.size w0 W1:=by
  rw[<-hW1];exact hb0.trans ((((Below.refl _ w).alloc (Nat.le_refl _) _).alloc (by simp) _).mono hb0.size)
 refine⟨w.heap.size+1,[{target:= .collected w.heap.size,args:=#[]}],W1, {target:= .fn (.func gf) lb,args:=#[.func (.yield (w.heap.size+1)) #[] #[]]},W1,gf,
  #[.func (.yield (w.heap.size + 1)) #[] #[]] ++ lb, W1, ?_, ?_, ?_, ?_, fun _ => h1, ?_⟩
 ·rw[<-hW1,hrec];exact run_enterLoop_outer _ _ _ _ _
 ·simp only[resolve,hg]
  simp[go_sem]
 ·intro f' hf';simp[Target.leads]at hf';subst hf';exact hFg
 ·simp[invoke,go_sem,eg]
 ·have hnw: ∀ {A B:World} {row:Option Nat},(∀r,row=some r->W1.heap.size<=r/\ ∃o:Obj,A.heap[r]?=some o/\o.isWalk=true)->(∀r,row=some r->w.heap.size<=r/\ ∃o:Obj,A.heap[r]?=some o/\o.isCells=false):=
   fun hr r e=>by obtain⟨hB,o,ho,hw⟩:=hr r e;exact⟨by rw[<-hW1]at hB;simp at hB;omega,o,ho,Obj.not_cells_of_walk hw⟩
  refine(hseq (w.heap.size+1)
   (fun pre W=>I pre W/\W.heap[w.heap.size+1]?=some (.loop (rec .ready none))/\W.heap[w.heap.size]?=some (.deferred (some [])))
   (fun _ _=>False)
   W1 hb1
   (fun s A B row hs hg' hr=>⟨hI s A B row hs.1 hg' (hnw (B:=B) hr),(grownBy_keeps hg' (fun r e=>(hr r e).2) hs.2.1 rfl).trans hs.2.1,(grownBy_keeps hg' (fun r e=>(hr r e).2) hs.2.2 rfl).trans hs.2.2⟩)
   (fun _ _ _ _ hs _ _=>hs)
   ?_ ⟨hI1,hL1,hK1⟩).mono ?_
  ·rintro pre x W ⟨hi,hl,hk⟩ hlen
   have hlt:w.heap.size+1<W.heap.size:=(Array.getElem?_eq_some_iff.1 hl).1;have hy:=run_yield (P:=P) (args:=encs x) hl (by rw[hrec];exact hps x);rw[hrec]at hy;obtain⟨WA,hWA⟩:=geZ (W.alloc (ob x));have hlA:WA.heap[w.heap.size+1]?=some (.loop (rec .ready none)):=by rw[<-hWA];exact(Below.heap_alloc _ _ _ hlt).trans hl
   have hkA:WA.heap[w.heap.size]?=some (.deferred (some [])):=by rw[<-hWA];exact(Below.heap_alloc _ _ _ (by omega)).trans hk
   have hiA:I pre WA:=by rw[<-hWA];exact hI.alloc _ hi
   have hvA:WA.heap[W.heap.size]?=some (ob x):=by rw[<-hWA];exact World.alloc_heap_new W _
   have hwA:KeepsWalks W WA:=by rw[<-hWA];exact KeepsWalks.alloc _ _
   have hltA:w.heap.size+1<WA.heap.size:=(Array.getElem?_eq_some_iff.1 hlA).1;refine⟨fn,_,assign,body,hy,roundIn_of_wpIn hfn (hassign _ x W _ ?_)⟩;rw[hWA];refine⟨_,run_beginRound hlA (by rw[hrec]),?_⟩;have hl2:(WA.putObj (w.heap.size+1) (.loop {rec .ready none with state:= .busy})).heap[w.heap.size+1]?=some (.loop {rec .ready none with state:= .busy}):=World.putObj_heap_same hltA;have hk2:(WA.putObj (w.heap.size+1) (.loop {rec .ready none with state:= .busy})).heap[w.heap.size]?=some (.deferred (some [])):=(World.putObj_heap_other (by omega)).trans hkA;have hv2:(WA.putObj (w.heap.size+1) (.loop {rec .ready none with state:= .busy})).heap[W.heap.size]?=some (ob x):=(World.putObj_heap_other (by omega)).trans hvA;have hw2:KeepsWalks WA (WA.putObj (w.heap.size+1) (.loop {rec .ready none with state:= .busy})):=KeepsWalks.putObj _ hlA rfl;refine wpIn_mono (hbody _ pre x W.heap.size _ (hI.putObj _ hiA (by omega) hlA rfl) hv2 (by omega) hlen) ?_;rintro e a3 W3 hp
   cases e with
   |normal=>
    obtain⟨hk3,hkp3,hi3⟩:=hp;have hl3:=hk3.same _ _ hl2 rfl;have hr:=run_endRound (P:=P) none hl3;rw[hrec]at hr hl3;refine⟨_,_,hr,.inl ⟨rfl,⟨hI.putObj _ hi3 (by omega) hl3 rfl,?_,(World.putObj_heap_other (by omega)).trans (hk3.same _ _ hk2 rfl)⟩,walksK_t (walksK_t hwA (walksK_t hw2 hkp3)) (KeepsWalks.putObj _ hl3 rfl)⟩⟩;rw[hrec];exact World.putObj_heap_same (Array.getElem?_eq_some_iff.1 hl3).1
   |ret=>exact hp.2.elim
   |exit id=>exact hp.2.elim
   |goto t=>exact hp.2.elim
   |panic ch=>exact hp.elim
   |outgrown=>exact hp.elim
  ·rintro e W2 ⟨⟨v,rfl⟩,(⟨xs,hS,hi,hl,hk⟩|⟨pre,_,h⟩)⟩
   ·exact⟨none,_,by have:=run_endLoop (P:=P) hl (by rw[hrec];simp);rw[hrec]at this;exact this,hdone _ xs _ (Nat.le_refl _) hS (hI.putObj _ hi (by omega) hl rfl) ((World.putObj_heap_other (by omega)).trans hk)⟩
   ·exact h.elim
theorem otappend_any (gf:Nat)(lb:Array Value)(S:List St3->Prop)(N:Nat)(hN:N<=1048576)(w:World)(eg: ∀args w,(callFunc gf args).run Tryz.prog w= .ok (.enter gf args) w)
  (hseq:SeqStopsK Fence.wide 3 Tryz.prog gf lb encT KeepsWalks S (fun _=>True) N w):
  Calls Tryz.prog 203 #[.slice none 0 0,.func (.func gf) #[] lb] w fun e w'=> ∃(v:Value) (ss:List St3),e= .returned v/\S ss/\Hid (w'.ownsRow w.heap.size 30 2 v ss.length (ss.flatMap stC))/\Below w.heap.size w w':=by
 refine(callsIn_wide (n:=4)).1 ?_;refine callsIn_of_wp_marks Tryz.func203 rfl trivial ?_ rfl;simp only[Tryz.ntmps203,List.size_toArray,List.length_cons,List.length_nil,Nat.reduceAdd,Nat.reduceSub,Array.replicate_succ,Array.replicate_zero,List.push_toArray,List.append_toArray,List.nil_append,List.cons_append];have HSEQ:=zq hseq;have HEG:=zq eg;clear hseq eg
 gi_wp2
 obtain⟨w3,hw3⟩:=geZ (w.alloc (.cells #[.slice none 0 0] 35));rw[hw3];have hs3:w3.heap.size=w.heap.size+1:=by rw[<-hw3];simp
 have hx3:Boxed w3 w.heap.size 35 (.slice none 0 0):=by rw[<-hw3];exact Boxed.new _ _ _
 have hb3:Below w.heap.size w w3:=by rw[<-hw3];exact bA
 clear hw3;refine wpIn_range13 rfl (by omega) (gf:=gf) (lb:=lb) rfl trivial HEG.out HSEQ.out hb3 (fun _=>rfl)
  (fun pre W=>(∃v,Boxed W w.heap.size 35 v/\W.ownsRow w.heap.size 30 2 v pre.length (pre.flatMap stC)/\True)/\Below w.heap.size w W)
  (OwnFrom.and (Own.from (holdsRow_own w.heap.size w.heap.size 35 30 2 List.length (fun pre=>pre.flatMap stC) (fun _ _=>True)) _) (ownFrom_below (Nat.le_refl _) (by omega)))
  ⟨⟨_,hx3,World.ownsRow_nil _ _ _ _,trivial⟩,hb3⟩
  (fun x=> .cells (stA13 x) 30)
  (fun x v=> {tmps:=#[.slice none 0 0,.func (.func gf) #[] lb,.pointer (some ⟨w.heap.size,0,none⟩),undef,.slice none 0 0,.pointer (some ⟨v,0,none⟩),.func (.func gf) #[] lb,.agg (stA13 x),undef,undef,undef,undef,undef],defers:=[]}) ?assign ?body ?done
 case assign=>
  intro l x W K hK;unfold encT;unfold stA13 at*
  gi_wp2
  exact hK
 case body=>
  rintro l pre x v W ⟨⟨u,hu,hrow,_⟩,hB⟩ hv hvw hlen;have hst:Has W v 30 (stA13 x):=hv;have c0:W.cell? ⟨v,0,none⟩=some (.int .i64 x.edge):=hst.cell 0;have c1:W.cell? ⟨v,1,none⟩=some (.bool x.rev):=hst.cell 1;have c2:=hu.cell;have HROW:=zq hrow;have HU:=zq hu;have HB:=zq hB;have HLEN:=zq hlen;have HAL:Hid (∀e r:Value,∀j y,[e,r][j]?=some y->(W.alloc (.cells #[e,r] 30)).cell? ((⟨W.heap.size,0,none⟩:Addr).add j)=some y):=zq fun e r j y hj=>by
   have h_:=(Has.made W 30 #[e,r]).cell j;rw[show((⟨W.heap.size,0,none⟩:Addr).add j)=⟨W.heap.size,j,none⟩ by simp[Addr.add];exact fun h=>h.symm,h_]
   simpa using hj
  obtain⟨i0,hi,hz0,hz1,hz2⟩:=info_parts qfm;have HNM:Hid (pre.length+1<=maxLen/\(pre.length+1)*16<=140737488355328/\w.heap.size<=(W.alloc (.cells #[Value.int .i64 x.edge,Value.bool x.rev] 30)).heap.size):=zq ⟨by unfold maxLen;omega,by omega,by have:=hB.size;simp;omega⟩;unfold stA13 at*;clear hst hv hrow hB hlen hu
  gi_wp2_with (first
   |(gi_at_builtin;refine wpListIn_append_own _ rfl _ _ 35 rfl w.heap.size 30 i0 (.agg #[.int .i64 0,.bool false]) 2 16 Tryz.underlying35 hi hz0 hz1 hz2 rfl (by decide) _ _ _ rfl (HROW.out.alloc _) ⟨W.heap.size,0,none⟩ 1 1 [.int .i64 x.edge,.bool x.rev] rfl rfl (HAL.out _ _) (by intro y hy;simp at hy;rcases hy with rfl|rfl<;>rfl) HNM.out.1 HNM.out.2.1 HNM.out.2.2 ?_;intro v' w4 hown' hg3 hnil3
     obtain⟨g',cap',rfl⟩:=ownsRow_succ hown';obtain⟨hb1,hb2,hb3',hb4,hb5⟩:=HU.out.appended (by decide) HROW.out HB.out.size (Nat.le_refl _) hown' hg3;have c5:=hb1.cell;have c6:=hb1.frozen;have HR:=zq (show _/\_/\_/\_ from⟨hb2,hb3',hb4,hb5⟩);clear hown' hg3 hnil3 hb1 hb2 hb3' hb4 hb5;go_frame)
   |gi_in)
  obtain⟨hb2,hb3',hb4,hb5⟩:=HR.out;exact⟨hb4,hb4.walks,⟨_,hb2,by rw[List.length_append,List.flatMap_append];exact hb3',trivial⟩,HB.out.trans hb5⟩
 case done=>
  rintro D ys W hD hys ⟨⟨u,hu,hrow,_⟩,hB⟩ hK;have c2:=hu.cell;have f2:=hu.frozen
  gi_wp2
  refine⟨by simp,.inl ⟨_,_,rfl,run_takeDeferred hK,?_⟩⟩;refine⟨_,results_tmp rfl _ _ _,u,ys,rfl,hys,zq (ownsRow_putObj hrow _ hK rfl),hB.trans (belowK_b (w:=w) (Nat.le_refl _) W D _ _ (by omega) hK rfl rfl)⟩
end
section
open Go.RowKit Go.Shelf
attribute [local go_sem] Oper.semAt_some
theorem qeV {F:Fence}{n:Nat}{P:Program}{α:Type}{g:Operand}{ps:Array Tmp}{assign body:Code}{Q:Exit->Act->World->Prop}{a:Act}{w:World}
  (hro:F.round=none) (h1:1<=n) {gf:Nat} {lb:Array Value} (hg:a.eval g= .func (.func gf) #[] lb) (hFg:F.fn gf) (eg: ∀args w,(callFunc gf args).run P w= .ok (.enter gf args) w)
  {encs:α->Array Value} {Kp:World->World->Prop} {S:List α->Prop} {N:Nat} {w0:World} (hseq:SeqStopsK F (n-1) P gf lb encs Kp S (fun _=>True) N w0)
  (hKt: ∀ {A B C:World},Kp A B->Kp B C->Kp A C) (hKb: ∀(W:World) (l:Nat) (o o':Obj),w.heap.size<=l->W.heap[l]?=some o->o.isCells=false->o.isWalk=false->Kp W (W.putObj l o')) (hKa: ∀(W:World) (o:Obj),w.heap.size<=W.heap.size->Kp W (W.alloc o))
  (hb0:Below w0.heap.size w0 w) (hps: ∀x,(encs x).size=ps.size)
  (I:List α->World->Prop) (hI:OwnFrom w.heap.size I) (h0:I [] w) (ob:α->Obj) (a₁:α->Nat->Act)
  (hassign: ∀(l:Nat) (x:α) (W:World) (K:Act->World->Prop),K (a₁ x W.heap.size) (W.alloc (ob x))->
   assign.wpIn (F.inRound l) (n-1-1) P (Exit.then K (fun _ _ _=>False)) {tmps:=(ps.zip (encs x)).foldl (fun t (p,v)=>t.setIfInBounds p v) a.tmps,defers:=[]} W)
  (hbody: ∀(l:Nat) (pre:List α) (x:α) (v:Nat) (W:World),I pre W->W.heap[v]?=some (ob x)->w.heap.size<=v->pre.length<N->body.wpIn (F.inRound l) (n-1-1) P (ownPostK Kp I (fun _ _ _=>False) (pre++[x]) W) (a₁ x v) W)
  (hdone: ∀(D:Nat) (xs:List α) (W:World),w.heap.size<=D->S xs->I xs W->W.heap[D]?=some (.deferred (some []))->Q .normal {a with defers:= {target:= .collected D,args:=#[]} ::a.defers} W):
  (Code.rangeFunc g ps assign body).wpIn F n P Q a w:=by
 refine wpIn_rangeFunc ?_;intro fn hfn;rw[hro];obtain⟨rec,hrec⟩: ∃rec:LoopState->Option Code->Loop,rec=fun st pe=> {state:=st,pending:=pe,fn,tmps:=a.tmps,params:=ps,assign,body,defers:=w.heap.size} :=⟨_,rfl⟩
 obtain⟨W1,hW1⟩:=geZ ((w.alloc (.deferred (some []))).alloc (.loop (rec .ready none)));have hL1:W1.heap[w.heap.size+1]?=some (.loop (rec .ready none)):=by
  rw[<-hW1];have:=World.alloc_heap_new (w.alloc (.deferred (some []))) (.loop (rec .ready none));rwa [World.size_alloc]at this
 have hK1:W1.heap[w.heap.size]?=some (.deferred (some [])):=by
  rw[<-hW1];exact(Below.heap_alloc _ _ _ (by simp)).trans (World.alloc_heap_new w _)
 have hI1:I [] W1:=by rw[<-hW1];exact hI.alloc _ (hI.alloc _ h0)
 have hb1:Below w0.heap.size w0 W1:=by
  rw[<-hW1];exact hb0.trans ((((Below.refl _ w).alloc (Nat.le_refl _) _).alloc (by simp) _).mono hb0.size)
 refine⟨w.heap.size+1,[{target:= .collected w.heap.size,args:=#[]}],W1, {target:= .fn (.func gf) lb,args:=#[.func (.yield (w.heap.size+1)) #[] #[]]},W1,gf,
  #[.func (.yield (w.heap.size + 1)) #[] #[]] ++ lb, W1, ?_, ?_, ?_, ?_, fun _ => h1, ?_⟩
 ·rw[<-hW1,hrec];exact run_enterLoop_outer _ _ _ _ _
 ·simp only[resolve,hg]
  simp[go_sem]
 ·intro f' hf';simp[Target.leads]at hf';subst hf';exact hFg
 ·simp[invoke,go_sem,eg]
 ·have hnw: ∀ {A B:World} {row:Option Nat},(∀r,row=some r->W1.heap.size<=r/\ ∃o:Obj,A.heap[r]?=some o/\o.isWalk=true)->(∀r,row=some r->w.heap.size<=r/\ ∃o:Obj,A.heap[r]?=some o/\o.isCells=false):=
   fun hr r e=>by obtain⟨hB,o,ho,hw⟩:=hr r e;exact⟨by rw[<-hW1]at hB;simp at hB;omega,o,ho,Obj.not_cells_of_walk hw⟩
  refine(hseq (w.heap.size+1)
   (fun pre W=>I pre W/\W.heap[w.heap.size+1]?=some (.loop (rec .ready none))/\W.heap[w.heap.size]?=some (.deferred (some [])))
   (fun _ _=>False)
   W1 hb1
   (fun s A B row hs hg' hr=>⟨hI s A B row hs.1 hg' (hnw (B:=B) hr),(grownBy_keeps hg' (fun r e=>(hr r e).2) hs.2.1 rfl).trans hs.2.1,(grownBy_keeps hg' (fun r e=>(hr r e).2) hs.2.2 rfl).trans hs.2.2⟩)
   (fun _ _ _ _ hs _ _=>hs)
   ?_ ⟨hI1,hL1,hK1⟩).mono ?_
  ·rintro pre x W ⟨hi,hl,hk⟩ hlen
   have hlt:w.heap.size+1<W.heap.size:=(Array.getElem?_eq_some_iff.1 hl).1;have hy:=run_yield (P:=P) (args:=encs x) hl (by rw[hrec];exact hps x);rw[hrec]at hy;obtain⟨WA,hWA⟩:=geZ (W.alloc (ob x));have hlA:WA.heap[w.heap.size+1]?=some (.loop (rec .ready none)):=by rw[<-hWA];exact(Below.heap_alloc _ _ _ hlt).trans hl
   have hkA:WA.heap[w.heap.size]?=some (.deferred (some [])):=by rw[<-hWA];exact(Below.heap_alloc _ _ _ (by omega)).trans hk
   have hiA:I pre WA:=by rw[<-hWA];exact hI.alloc _ hi
   have hvA:WA.heap[W.heap.size]?=some (ob x):=by rw[<-hWA];exact World.alloc_heap_new W _
   have hwA:Kp W WA:=by rw[<-hWA];exact hKa W _ (by omega)
   have hltA:w.heap.size+1<WA.heap.size:=(Array.getElem?_eq_some_iff.1 hlA).1;refine⟨fn,_,assign,body,hy,roundIn_of_wpIn hfn (hassign _ x W _ ?_)⟩;rw[hWA];refine⟨_,run_beginRound hlA (by rw[hrec]),?_⟩;have hl2:(WA.putObj (w.heap.size+1) (.loop {rec .ready none with state:= .busy})).heap[w.heap.size+1]?=some (.loop {rec .ready none with state:= .busy}):=World.putObj_heap_same hltA;have hk2:(WA.putObj (w.heap.size+1) (.loop {rec .ready none with state:= .busy})).heap[w.heap.size]?=some (.deferred (some [])):=(World.putObj_heap_other (by omega)).trans hkA;have hv2:(WA.putObj (w.heap.size+1) (.loop {rec .ready none with state:= .busy})).heap[W.heap.size]?=some (ob x):=(World.putObj_heap_other (by omega)).trans hvA;have hw2:Kp WA (WA.putObj (w.heap.size+1) (.loop {rec .ready none with state:= .busy})):=hKb WA _ _ _ (by omega) hlA rfl rfl;refine wpIn_mono (hbody _ pre x W.heap.size _ (hI.putObj _ hiA (by omega) hlA rfl) hv2 (by omega) hlen) ?_;rintro e a3 W3 hp
   cases e with
   |normal=>
    obtain⟨hk3,hkp3,hi3⟩:=hp;have hl3:=hk3.same _ _ hl2 rfl;have hr:=run_endRound (P:=P) none hl3;rw[hrec]at hr hl3;refine⟨_,_,hr,.inl ⟨rfl,⟨hI.putObj _ hi3 (by omega) hl3 rfl,?_,(World.putObj_heap_other (by omega)).trans (hk3.same _ _ hk2 rfl)⟩,hKt (hKt hwA (hKt hw2 hkp3)) (hKb W3 _ _ _ (by omega) hl3 rfl rfl)⟩⟩;rw[hrec];exact World.putObj_heap_same (Array.getElem?_eq_some_iff.1 hl3).1
   |ret=>exact hp.2.elim
   |exit id=>exact hp.2.elim
   |goto t=>exact hp.2.elim
   |panic ch=>exact hp.elim
   |outgrown=>exact hp.elim
  ·rintro e W2 ⟨⟨v,rfl⟩,(⟨xs,hS,hi,hl,hk⟩|⟨pre,_,h⟩)⟩
   ·exact⟨none,_,by have:=run_endLoop (P:=P) hl (by rw[hrec];simp);rw[hrec]at this;exact this,hdone _ xs _ (Nat.le_refl _) hS (hI.putObj _ hi (by omega) hl rfl) ((World.putObj_heap_other (by omega)).trans hk)⟩
   ·exact h.elim
end
section
open Go.RowKit
open Go.Great Go.ChangeShapes Go.WideShapes Go.ChangeAt Go.Deep Go.Joins
theorem el_pos14 {H:Type}{enc:TypeId×Value->H}{W:World}(fuel:Nat)(cs:List Value)(y:DataW H×List MemPlace)(hl:cs.length=3)(h:DataW.trod enc Tryz.prog W 0 (fun _=>true) true fuel 51 cs=some y): ∃x:Ps3,cs=[.int .i64 x.edge,.int .i64 x.at_,.bool x.rev]:=by
 have kI:Tryz.prog.cellsOf 3=1:=by kernel_rfl
 have kB:Tryz.prog.cellsOf 4=1:=by kernel_rfl
 obtain⟨xs,n,_,_,_,hxl,hg⟩:=DataW.trod_struct Tryz.underlying51 h
 match cs,hl,xs,hxl with
 |[v0,v1,v2],_,[y0,y1,y2],_=>
  have g0:DataW.trod enc Tryz.prog W 0 (fun _=>true) true n 3 [v0]=some y0:=by simpa[kI]using hg 0 _ rfl
  have g1:DataW.trod enc Tryz.prog W 0 (fun _=>true) true n 3 [v1]=some y1:=by simpa[kI]using hg 1 _ rfl
  have g2:DataW.trod enc Tryz.prog W 0 (fun _=>true) true n 4 [v2]=some y2:=by simpa[kB]using hg 2 _ rfl
  obtain⟨a0,e0,_,_⟩:=DataW.trod_int Tryz.underlying3 g0;obtain⟨a1,e1,_,_⟩:=DataW.trod_int Tryz.underlying3 g1;obtain⟨a2,e2,_⟩:=DataW.trod_bool Tryz.underlying4 g2;simp at e0 e1 e2;subst e0 e1 e2;exact⟨⟨a0,a1,a2⟩,rfl⟩
theorem pos_open {H:Type}{enc:TypeId×Value->H}{W:World}{r:Reach}{b0:Nat}{v:Value}{d:DataW H}{p:List MemPlace}(hv:Value.okWide Tryz.prog W r b0 51 v)
  (h:DataW.Trod enc Tryz.prog W 0 (fun _=>true) true 51 v d p): ∃s:Ps3,v= .agg (psA s):=by
 obtain⟨cs,rfl,hsz⟩:=okWide_struct Tryz.underlying51 hv;have hC:Tryz.prog.cellsOf 51=3:=by kernel_rfl
 obtain⟨fuel,hf⟩:=h;obtain⟨cl⟩:=cs;obtain⟨s,e⟩:=el_pos14 fuel cl _ (hsz.trans hC) (by simpa[Value.cells]using hf);exact⟨s,by rw[e];rfl⟩
end
section
open Go.RowKit
open Go.Great
theorem qgt (t:Tp3)(a:TpA)(id:Int)(w:World)(ht:TopR w t a)(hl:qaH t=true):
  Calls Tryz.prog 35 #[.agg (tpC t a),.int .i64 id] w fun e w'=> ∃A c,SlO stC 2 w' A (qbb t id).path.length c (qbb t id).path/\(∀ad,A=some ad->w.heap.size<=ad.block/\ad.block<w'.heap.size)/\(qbb t id).path.length<=c/\e= .returned (.tuple #[.agg (rtA (qbb t id) (.slice A (qbb t id).path.length c)),.bool (qaS t id).isSome])/\Below w.heap.size w w':=by
 have hn:t.routes.length<=1048576:=by have:=(qax hl).2.2.2.1;omega
 have hpl:=(qax hl).2.2.2.2;obtain⟨wa,hwa,hbwa,HWA,HBWA,h0,h1⟩:=bx2Z w 27 (tpC t a) 75 #[.int .i64 0,.slice none 0 0,.int .i64 0,.int .i64 0];have c3:wa.cell? ⟨w.heap.size,3,none⟩=some (.slice a.ar t.routes.length a.cr):=(h0).cell 3;have H:=zq (qde t a id wa (ht.under hbwa) hn);have HT:=zq ht;have HP:=zq h0;have KP:=zH h0;have KZ:=zH h1;have KC:Hid (∀W,Below wa.heap.size wa W->W.cell? ⟨w.heap.size,3,none⟩=some (.slice a.ar t.routes.length a.cr)):=zq fun W hW=>(hW.cell (qah c3)).trans c3;have HSZ:Hid (wa.heap.size=w.heap.size+2):=zq (by rw[<-hwa];simp);have hfi:=qeX (fun r:Rt3=>r.id==id) t.routes;generalize hR:idxL (fun r:Rt3=>r.id==id) t.routes=R at*;clear hwa hbwa h0 h1 ht hR
 rcases hfi with⟨rfl,hf⟩|⟨j,x,hx,rfl,hf⟩
 ·have HF:=zq (show qaS t id=none from hf)
  clear hf;go_enter Tryz.func35,Tryz.ntmps35;go_upto_region 1 with fail;rw[HWA.out];clear HWA c3;go_wp2_with (with_reducible refine ldZ 8 HP.out ?_);refine H.out.mono ?_;rintro e w1 ⟨rfl,hb1⟩;have HZ1:=zq (KZ.out w1 hb1);have HB1:=tB HBWA hb1;clear hb1 HBWA H HP KP KZ KC;have HR:=zq (qaa HZ1.out #[.int .i64 0,.slice none 0 0,.int .i64 0,.int .i64 0]);have HBF:=zq (qab (g:=w.heap.size+1) HB1.out (by omega) #[.int .i64 0,.slice none 0 0,.int .i64 0,.int .i64 0]);go_wp2_with (with_reducible refine stZ #[.int .i64 0,.slice none 0 0,.int .i64 0,.int .i64 0] HZ1.out ?_);refine rtZ HR.out ?_;have e1_:qbb t id=⟨0,[],0,0⟩:=by unfold qbb;rw[HF.out];rfl
  have e2_:(qaS t id).isSome=false:=by rw[HF.out];rfl
  rw[e1_,e2_];exact⟨none,0,SlO.nil _ _ _,(fun ad h=>by cases h),Nat.le_refl _,rfl,HBF.out⟩
 ·have HF:=zq (show qaS t id=some x from hf)
  have hjl:=(List.getElem?_eq_some_iff.1 hx).1;have hpx:=hpl x (List.mem_of_getElem? hx);clear hf hpl;go_enter Tryz.func35,Tryz.ntmps35;go_upto_region 1 with fail;rw[HWA.out];clear HWA c3;go_wp2_with (with_reducible refine ldZ 8 HP.out ?_);refine H.out.mono ?_;rintro e w1 ⟨rfl,hb1⟩;have HZ1:=zq (KZ.out w1 hb1);have HB1:=tB HBWA hb1;have c3:=KC.out w1 hb1;have s1:w.heap.size+2<=w1.heap.size:=by have:=hb1.size;have:=HSZ.out;omega
  obtain⟨bk,off,PA,pc,hab,hpa,d0,d1,d2,d3⟩:=(HT.out.under HB1.out).r.at_ hx;have HPA:=zq hpa;clear hpa;rw[hab]at c3;have y0:(0:Int)<=j:=by omega
  have y1:(j:Int)<t.routes.length:=by omega
  have y2: ¬(j:Int)<0:=by omega
  clear hb1 HBWA H HP KP KZ KC hx hab HSZ;generalize t.routes.length=m at*;have HPL:=zq hpx;clear hpx;go_upto_region 5 with fail;obtain⟨w2,hw2⟩:=geZ (w1.alloc (.cells #[.int .i64 x.id,.slice PA x.path.length pc,.int .i64 x.gap,.int .i64 x.timer] 75));rw[hw2];have hb2:Below w1.heap.size w1 w2:=by rw[<-hw2];exact bA
  have hX:Has w2 w1.heap.size 75 #[.int .i64 x.id,.slice PA x.path.length pc,.int .i64 x.gap,.int .i64 x.timer]:=by rw[<-hw2];exact Has.made _ _ _
  have hZ2:=HZ1.out.u hb2;have HB2:=tB HB1 hb2;have e1:w2.cell? ⟨w1.heap.size,1,none⟩=some (.slice PA x.path.length pc):=hX.cell 1;have HC:=zq (oclones_any PA x.path.length pc (x.path.flatMap stC) w2 ((HPA.out.under hb2).2) (stc_one13 _) (by have:=HPL.out;omega));have HX:=zq hX;have HZ2:=zq hZ2;clear hw2 hb2 hX hZ2 d0 d1 d2 d3 c3;go_wp2_with fail;refine HC.out.mono ?_;rintro e w3 ⟨A2,c2,rfl,HO,hb3⟩;have HB3:=zq (HB2.out.trans (hb3.out.mono HB2.out.size));have hX3:=HX.out.under hb3.out HX.out.lt;have hZ3:=HZ2.out.under hb3.out HZ2.out.lt;have g1:=hX3.thaw 1;have e1':w3.cell? ⟨w1.heap.size,1,none⟩=some (.slice PA x.path.length pc):=hX3.cell 1;have HX3:=zq hX3;have HZ3:=zq hZ3;clear e1 hX3 hZ3 hb3 HX HZ2 HC;go_upto_region 6 with fail;obtain⟨w4,hw4⟩:=geZ (w3.setCell ⟨w1.heap.size,1,none⟩ (.slice A2 x.path.length c2));rw[hw4];have hb4:Below w.heap.size w w4:=by rw[<-hw4];exact HB3.out.setCell (p:=⟨w1.heap.size,1,none⟩) (by show w.heap.size<=w1.heap.size;omega) _
  have hX4:Has w4 w1.heap.size 75 #[.int .i64 x.id,.slice A2 x.path.length c2,.int .i64 x.gap,.int .i64 x.timer]:=by rw[<-hw4];exact(HX3.out.stored 1 _).is11 (by simp)
  have hZ4:Has w4 (w.heap.size+1) 75 #[.int .i64 0,.slice none 0 0,.int .i64 0,.int .i64 0]:=by rw[<-hw4];exact HZ3.out.apart (show w.heap.size+1≠w1.heap.size by omega) _
  have HO4:Hid (w4.ownsRow w2.heap.size 30 2 (.slice A2 x.path.length c2) x.path.length (x.path.flatMap stC)):=zq (by rw[<-hw4];exact qd1 HO.out (qbW (qa3 _ _) rfl _) (qbm HO.out HX3.out (by decide)));have HX4:=zq hX4;have HZ4:=zq hZ4;have HB4:=zq hb4;clear hw4 hb4 hX4 hZ4 g1 e1' HX3 HZ3 HO;have HR:=zq (qaa HZ4.out #[.int .i64 x.id,.slice A2 x.path.length c2,.int .i64 x.gap,.int .i64 x.timer]);have HBF:=zq (qab (g:=w.heap.size+1) HB4.out (by omega) #[.int .i64 x.id,.slice A2 x.path.length c2,.int .i64 x.gap,.int .i64 x.timer]);have HO5:=zq (qd1 HO4.out (qal w4 (w.heap.size+1) #[.int .i64 x.id,.slice A2 x.path.length c2,.int .i64 x.gap,.int .i64 x.timer]) (qbm HO4.out HZ4.out (by decide)));go_wp2_with (first|(with_reducible refine ldZ 23 HX4.out ?_)|(with_reducible refine stZ #[.int .i64 x.id,.slice A2 x.path.length c2,.int .i64 x.gap,.int .i64 x.timer] HZ4.out ?_));refine rtZ HR.out ?_;have e1_:qbb t id=x:=by unfold qbb;rw[HF.out];rfl
  have e2_:(qaS t id).isSome=true:=by rw[HF.out];rfl
  rw[e1_,e2_];exact⟨A2,c2,⟨rfl,Sl.of_own HO5.out⟩,(fun ad h=>by
   subst h
   rcases HO5.out.2 with⟨e,_⟩|⟨g,cap,cur,e,hg,hbk,_⟩
   ·cases e
   ·injection e with e1 _ _
    injection e1 with e2
    have:=HB2.out.size;subst e2;exact⟨Nat.le_trans this hg,(Array.getElem?_eq_some_iff.1 hbk).1⟩),(by
   rcases HO5.out.2 with⟨e,e2⟩|⟨g,cap,cur,e,_,_,h2,_⟩
   ·omega
   ·injection e with _ _ e3
    omega),rfl,HBF.out⟩
theorem otp_routeF (t:Tp3)(a:TpA)(id:Int)(w:World)(ht:TopR w t a)(hl:qaH t=true):
  Calls Tryz.prog 35 #[.agg (tpC t a),.int .i64 id] w fun e w'=> ∃A c,SlO stC 2 w' A (qbb t id).path.length c (qbb t id).path/\(∀ad,A=some ad->w.heap.size<=ad.block/\ad.block<w'.heap.size)/\e= .returned (.tuple #[.agg (rtA (qbb t id) (.slice A (qbb t id).path.length c)),.bool (qaS t id).isSome])/\Below w.heap.size w w':=(qgt t a id w ht hl).mono fun _ _ ⟨A,c,h1,h2,_,h3,h4⟩=>⟨A,c,h1,h2,h3,h4⟩
end
section
open Go.RowKit
open Go.Great
theorem qeP (t:Tp3)(a:TpA)(path:List St3)(A:Option Addr)(n c:Nat)(w:World)(ht:TopR w t a)(hp:SlO stC 2 w A n c path)(hn:n<=1048576)(hl:qaH t=true):Calls Tryz.prog 146 #[.agg (tpC t a),.slice A n c] w fun e w'=> ∃N:Int,e= .returned (.tuple #[.int .i64 N,.int .i64 (lenE t path)])/\Below w.heap.size w w':=by
 have hlg:=qax hl;obtain⟨wa,hwa,hbwa,HWA,HBWA,h0⟩:=bx1Z w 27 (tpC t a);have H0:=zH h0;have HT:=zq (fun W (hW:Below w.heap.size w W)=>ht.under hW);have HP:=zq (fun W (hW:Below w.heap.size w W)=>hp.under hW);have HBA:=zq (fun W (hW:Below wa.heap.size wa W)=>hbwa.trans (hW.mono hbwa.size));have HLN:=zq hp.1;have HL:=zq hlg.1;have HJ:=zq hlg.2.1;obtain⟨rE,hrE⟩: ∃r,lenE t path=r:=⟨_,rfl⟩
 have HRE:=zq hrE;rw[hrE];have HWI:=zq (fun W=>qbM n 1 40 W);obtain⟨b1,hb1⟩: ∃b,qas n 1 40=b:=⟨_,rfl⟩
 rw[hb1]at HWI;have HB1:Hid (qas n 1 40=b1):=zq hb1;have HEE:=zq (fun W (hW:Below w.heap.size w W)=>qfA t a path A n c W (hp.under hW) hn hlg.1);obtain⟨b2,hb2⟩: ∃b,(path.all fun s=>edgeB t s.edge)=b:=⟨_,rfl⟩
 rw[hb2]at HEE;have HB2:=zq hb2;have HNB:=zq hn;clear hwa hbwa h0 ht hp hrE hl hlg hb1 hb2 hn
 cases b1 with
 |false=>
  go_enter Tryz.func146,Tryz.ntmps146;go_upto_region 1 with fail;rw[HWA.out];clear HWA;go_wp2_with fail;refine(HWI.out _).mono ?_;rintro e w1 ⟨rfl,hw1⟩;rw[hw1];clear hw1;go_wp2;go_ret2
  have hE:lenE t path=1:=by unfold lenE;rw[if_pos (by have h_:=HB1.out;unfold qas at h_;simp only[Bool.and_eq_false_iff,decide_eq_false_iff_not]at h_;have:=HLN.out;omega)]
  have e2_:rE=1:=by rw[<-HRE.out];exact hE
  subst e2_
  first|exact⟨_,rfl,HBWA.out⟩|exact⟨⟨_,rfl⟩,HBWA.out⟩
 |true=>
  cases b2 with
  |false=>
   go_enter Tryz.func146,Tryz.ntmps146;go_upto_region 1 with fail;rw[HWA.out];clear HWA;go_wp2_with fail;refine(HWI.out _).mono ?_;rintro e w1 ⟨rfl,hw1⟩;rw[hw1];clear hw1;go_wp2_with ((with_reducible refine qbF 15 ?_);refine qaC (o:=⟨some 15,_,_,_,_,_⟩) 27 _ rfl (by kernel_rfl) (w.heap.size) rfl 27 (tpC t a) (0,0) _ ((H0.out _ (Below.refl _ _))).raw11 Tryz.underlying27 rfl (by kernel_rfl) ?_);refine(HEE.out _ HBWA.out).mono ?_;rintro e w2 ⟨rfl,hbw2⟩;have HB3:=tB HBWA hbw2;clear hbw2;go_wp2;go_ret2
   have hE:lenE t path=1:=by unfold lenE;rw[if_neg (by have h_:=HB1.out;unfold qas at h_;simp only[Bool.and_eq_true,decide_eq_true_eq]at h_;have:=HLN.out;omega),HB2.out];rfl
   have e2_:rE=1:=by rw[<-HRE.out];exact hE
   subst e2_
   first|exact⟨_,rfl,HB3.out⟩|exact⟨⟨_,rfl⟩,HB3.out⟩
  |true=>
   go_enter Tryz.func146,Tryz.ntmps146;go_upto_region 1 with fail;rw[HWA.out];clear HWA;go_wp2_with fail;refine(HWI.out _).mono ?_;rintro e w1 ⟨rfl,hw1⟩;rw[hw1];clear hw1;go_wp2_with ((with_reducible refine qbF 15 ?_);refine qaC (o:=⟨some 15,_,_,_,_,_⟩) 27 _ rfl (by kernel_rfl) (w.heap.size) rfl 27 (tpC t a) (0,0) _ ((H0.out _ (Below.refl _ _))).raw11 Tryz.underlying27 rfl (by kernel_rfl) ?_);refine(HEE.out _ HBWA.out).mono ?_;rintro e w2 ⟨rfl,hbw2⟩;have HBW:=zq hbw2;have HALL:Hid (∀s∈path,edgeB t s.edge=true):=zq (List.all_eq_true.1 HB2.out);have HNZ:Hid (1<=n/\n<=40):=zq (by have h_:=HB1.out;unfold qas at h_;simp only[Bool.and_eq_true,decide_eq_true_eq]at h_;omega);have HWY:=zq (otway_any t a path A n c w2 (HT.out _ (HBA.out _ hbw2)) (HP.out _ (HBA.out _ hbw2)) HNB.out HNZ.out.1 HL.out HJ.out HALL.out);obtain⟨b3,hb3⟩: ∃b,wayB t path=b:=⟨_,rfl⟩
   rw[hb3]at HWY;have HB3:=zq hb3;clear hbw2 hb3;go_wp2_with (with_reducible refine ldZ 21 (H0.out _ HBW.out) ?_);refine HWY.out.mono ?_;rintro e w3 ⟨rfl,hbw3⟩;have HW3:=tB HBW hbw3;clear hbw3 HWY HBW
   cases b3 with
   |false=>
    go_wp2;go_ret2
    have hE:lenE t path=141:=by unfold lenE;rw[if_neg (by have h_:=HB1.out;unfold qas at h_;simp only[Bool.and_eq_true,decide_eq_true_eq]at h_;have:=HLN.out;omega),HB2.out,if_pos rfl,HB3.out];rfl
    have e2_:rE=141:=by rw[<-HRE.out];exact hE
    subst e2_
    first|exact⟨_,rfl,HBA.out _ HW3.out⟩|exact⟨⟨_,rfl⟩,HBA.out _ HW3.out⟩
   |true=>
    have HE0:Hid (lenE t path=0):=zq (by unfold lenE;rw[if_neg (by have h_:=HB1.out;unfold qas at h_;simp only[Bool.and_eq_true,decide_eq_true_eq]at h_;have:=HLN.out;omega),HB2.out,if_pos rfl,HB3.out];rfl);clear HB1 HB2 HB3 HWI HEE;go_wp2;go_loopg [6,27] n (fun kk v6 v27 wl=> ∃i:Nat,i<=n/\n-i<=kk/\v27= .int .i64 i/\(∃sv:Int,v6= .int .i64 sv)/\Hid (Below wa.heap.size wa wl))
    case atStart=>exact⟨0,by omega,by omega,rfl,⟨0,rfl⟩,HW3⟩
    obtain⟨i,hi,hik,rfl,⟨sv,rfl⟩,HWR⟩:=hrel;by_cases hlt:i<n;rotate_left
    ·obtain rfl:i=n:=by omega
     have x1: ¬(i:Int)<i:=by omega
     have hti:path.take i=path:=List.take_of_length_le (by have:=HLN.out;omega);clear hti;go_wp2;go_ret2
     have e2_:rE=0:=HRE.out.symm.trans HE0.out;subst e2_
     first|exact⟨_,rfl,HBA.out _ HWR.out⟩|exact⟨⟨_,rfl⟩,HBA.out _ HWR.out⟩
    obtain⟨x,hx⟩:=glZ path (i) (by have:=HLN.out;omega);have HX:=zq hx;have hex:=HALL.out x (List.mem_of_getElem? hx);have hed:0<=x.edge/\x.edge<t.edges.length:=by have h_:=hex;unfold edgeB at h_;simpa using h_
    obtain⟨e,hee⟩: ∃e:Nat,x.edge=e:=⟨x.edge.toNat,by omega⟩
    have hel:e<t.edges.length:=by omega
    obtain⟨q,hq⟩:=geZ (t.edges.getD e 0);have HQ:=zq hq;have HHE:=zq hee;have HEL:=zq hel;obtain⟨bk,off,rfl,d0,d1⟩:=(HP.out _ (HBA.out _ HWR.out)).step hx;rw[hee]at d0;have y0:(0:Int)<=i:=by omega
    have y1:(i:Int)<n:=by omega
    have y2:(i:Int)<40:=by have:=HNZ.out;omega
    clear hx hex hed hee hel hq;go_upto_region 9 with fail;obtain⟨wb,hwb⟩:=geZ (wr.alloc (.cells #[.int .i64 (e:Nat),.bool x.rev] 30));rw[hwb];have hbb:Below wr.heap.size wr wb:=by rw[<-hwb];exact bA
    have hH:Has wb wr.heap.size 30 #[.int .i64 (e:Nat),.bool x.rev]:=by rw[<-hwb];exact Has.made _ _ _
    have HWB:=tB HWR hbb;have hc0:wb.cell? ⟨wr.heap.size,0,none⟩=some (.int .i64 (e:Nat)):=hH.cell 0;obtain⟨be,oe,hae,ce⟩:=(HT.out _ (HBA.out _ HWB.out)).e.edge HEL.out;have c0:=(H0.out _ HWB.out).cell 0;have c0':wb.cell? ⟨w.heap.size,0,none⟩=some (.slice (some ⟨be,oe,none⟩) t.edges.length a.ce):=by first|exact c0.trans (by rw[<-hae];rfl)|(rw[<-hae];exact c0)
    have z0:(0:Int)<=e:=by omega
    have z1:(e:Int)<t.edges.length:=by have:=HEL.out;omega
    rw[HQ.out]at ce;obtain⟨me,hme⟩: ∃m,t.edges.length=m:=⟨_,rfl⟩
    rw[hme]at c0' z1;clear hwb hbb hH c0 hme hae d0 d1;go_wp2;go_roundg (gk-1)
    case measure=>omega
    case rel=>
     refine⟨i+1,by omega,by omega,by go_num,⟨_,rfl⟩,HWB⟩
end
end Go.Proofs.YtahadmeilajdgaaGreatDoor
