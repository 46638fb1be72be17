/-
  Our own text, joined.
-/
import Derived.Test.YtahadmeilajdgaaGreatDoorMras
import Derived.Test.YtahadmeilajdgaaGreatDoorMraa
import Derived.Test.YtahadmeilajdgaaGreatDoorMrak
import Derived.Deep.DeepCutAuto
import Derived.Deep.CutBlock
namespace Go.Proofs.YtahadmeilajdgaaGreatDoor
set_option maxRecDepth 100000
set_option maxHeartbeats 8000000
section
open Go.RowKit
structure SlW (w:World) (A:Option Addr) (m c:Nat) (l:List ByteArray):Prop where
 len:l.length=m
 sl:Sl w 1 A m c (strs l)
theorem SlW.under {w w':World}{A:Option Addr}{m c:Nat}{l:List ByteArray}(h:SlW w A m c l)(hb:Below w.heap.size w w'):SlW w' A m c l:=⟨h.len,h.sl.under hb⟩
theorem SlW.at_ {w:World}{A:Option Addr}{m c:Nat}{l:List ByteArray}(h:SlW w A m c l){j:Nat}(hj:j<m): ∃b off,A=some ⟨b,off,none⟩/\w.cell? ⟨b,off+j,none⟩=some (.string (l.getD j ⟨#[]⟩)):=by
 have hl:j<l.length:=by have:=h.len;omega
 exact h.sl.at_ (by simp[strs,List.getD_eq_getElem?_getD,List.getElem?_eq_getElem hl])
def isOpen (w:ByteArray):Bool:=decide (w=⟨#[123]⟩)||decide (w=⟨#[60]⟩)||decide (w=⟨#[40,49,50]⟩)
def isClose (w:ByteArray):Bool:=decide (w=⟨#[125]⟩)||decide (w=⟨#[62]⟩)
def qcz (w:ByteArray)(d:Int):Int:=(if isOpen w=true then d+1 else d)-(if isClose w=true then 1 else 0)
def qba (L:List ByteArray):Nat->Nat->Int->Nat
 |0,_,_=>L.length
 |f+1,i,d=>if qcz (L.getD i ⟨#[]⟩) d=0 then i else qba L f (i+1) (qcz (L.getD i ⟨#[]⟩) d)
theorem closing_any (A:Option Addr)(n c:Nat)(L:List ByteArray)(at_:Nat)(hat:at_<=n)(hn:n<=1048576)(w:World)(hL:SlW w A n c L):
  Calls Tryz.prog 190 #[.slice A n c,.int .i64 (at_:Nat)] w fun e w'=>e= .returned (.int .i64 (qba L (n-at_) at_ 0:Nat))/\w=w':=by
 have hlen:=hL.len;obtain⟨R,hR⟩:=geZ (qba L (n-at_) at_ 0);rw[hR];have HL:=zq hL;clear hL;have HR:=zq hR;clear hR;go_enter Tryz.func190,Tryz.ntmps190;go_wp2;go_loop [5,6] (fun dv i=> ∃(j:Nat) (d:Int),j<=n/\i= .int .i64 j/\dv= .int .i64 d/\ -(j:Int)<=d/\d<=j/\qba L (n-j) j d=R) (fun _ i=>n-(intOf i).toNat)
 case atStart=>exact⟨at_,0,hat,rfl,rfl,by omega,by omega,HR.out⟩
 obtain⟨j,d,hj,rfl,rfl,hd1,hd2,hg⟩:=hrel;by_cases hlt:j<n
 ·obtain⟨b,off,rfl,hc⟩:=HL.out.at_ hlt
  rw[show n-j=(n-(j+1))+1 by omega,qba]at hg;generalize L.getD j ⟨#[]⟩=W at*;have f1:=qby W ⟨#[123]⟩;rw[show(⟨#[123]⟩:ByteArray).toList=[123]from by kernel_rfl]at f1;have f2:=qby W ⟨#[60]⟩;rw[show(⟨#[60]⟩:ByteArray).toList=[60]from by kernel_rfl]at f2;have f3:=qby W ⟨#[40,49,50]⟩;rw[show(⟨#[40,49,50]⟩:ByteArray).toList=[40,49,50]from by kernel_rfl]at f3;have f4:=qby W ⟨#[125]⟩;rw[show(⟨#[125]⟩:ByteArray).toList=[125]from by kernel_rfl]at f4;have f5:=qby W ⟨#[62]⟩;rw[show(⟨#[62]⟩:ByteArray).toList=[62]from by kernel_rfl]at f5;unfold qcz isOpen isClose at hg;generalize decide (W=⟨#[123]⟩)=b1 at*;generalize decide (W=⟨#[60]⟩)=b2 at*;generalize decide (W=⟨#[40,49,50]⟩)=b3 at*;generalize decide (W=⟨#[125]⟩)=b4 at*;generalize decide (W=⟨#[62]⟩)=b5 at*;have x0:(0:Int)<=j:=by omega
  have x1:(j:Int)<n:=by omega
  have x2:(n:Int)<=1048576:=by omega
  obtain⟨o,ho⟩: ∃o:Int,(if(b1||b2||b3)=true then d+1 else d)-(if(b4||b5)=true then 1 else 0)=o:=⟨_,rfl⟩
  rw[ho]at hg;have HG:=zq hg;clear hg
  cases b1
  ·skip
   cases b2
   ·skip
    cases b3
    ·skip
     cases b4
     ·skip
      cases b5
      ·skip
       have eo:o=d:=by rw[<-ho];simp
       have hg:=HG.out;rw[eo]at hg;clear ho eo HG;by_cases hz:d=0
       ·have hz1:((d)==0)=true:=by rw[beq_iff_eq];exact hz
        rw[if_pos hz]at hg;subst hg;clear hz;go_wp2;go_ret
        exact⟨rfl,rfl⟩
       ·have hz1:((d)==0)=false:=by rw[beq_eq_false_iff_ne];exact hz
        rw[if_neg hz]at hg;have HG2:=zq hg;clear hg hz;go_wp2;go_round
        case rel=>exact⟨j+1,d,by omega,by go_num,by go_num,by omega,by omega,HG2.out⟩
        case measure=>simp[intOf];omega
      ·skip
       have eo:o=d-1:=by rw[<-ho];simp
       have hg:=HG.out;rw[eo]at hg;clear ho eo HG;by_cases hz:d-1=0
       ·have hz1:((d-1)==0)=true:=by rw[beq_iff_eq];exact hz
        rw[if_pos hz]at hg;subst hg;clear hz;go_wp2;go_ret
        exact⟨rfl,rfl⟩
       ·have hz1:((d-1)==0)=false:=by rw[beq_eq_false_iff_ne];exact hz
        rw[if_neg hz]at hg;have HG2:=zq hg;clear hg hz;go_wp2;go_round
        case rel=>exact⟨j+1,d-1,by omega,by go_num,by go_num,by omega,by omega,HG2.out⟩
        case measure=>simp[intOf];omega
     ·skip
      have eo:o=d-1:=by rw[<-ho];simp
      have hg:=HG.out;rw[eo]at hg;clear ho eo HG;by_cases hz:d-1=0
      ·have hz1:((d-1)==0)=true:=by rw[beq_iff_eq];exact hz
       rw[if_pos hz]at hg;subst hg;clear hz;go_wp2;go_ret
       exact⟨rfl,rfl⟩
      ·have hz1:((d-1)==0)=false:=by rw[beq_eq_false_iff_ne];exact hz
       rw[if_neg hz]at hg;have HG2:=zq hg;clear hg hz;go_wp2;go_round
       case rel=>exact⟨j+1,d-1,by omega,by go_num,by go_num,by omega,by omega,HG2.out⟩
       case measure=>simp[intOf];omega
    ·skip
     cases b4
     ·skip
      cases b5
      ·skip
       have eo:o=d+1:=by rw[<-ho];simp
       have hg:=HG.out;rw[eo]at hg;clear ho eo HG;by_cases hz:d+1=0
       ·have hz1:((d+1)==0)=true:=by rw[beq_iff_eq];exact hz
        rw[if_pos hz]at hg;subst hg;clear hz;go_wp2;go_ret
        exact⟨rfl,rfl⟩
       ·have hz1:((d+1)==0)=false:=by rw[beq_eq_false_iff_ne];exact hz
        rw[if_neg hz]at hg;have HG2:=zq hg;clear hg hz;go_wp2;go_round
        case rel=>exact⟨j+1,d+1,by omega,by go_num,by go_num,by omega,by omega,HG2.out⟩
        case measure=>simp[intOf];omega
      ·skip
       have eo:o=d+1-1:=by rw[<-ho];simp
       have hg:=HG.out;rw[eo]at hg;clear ho eo HG;by_cases hz:d+1-1=0
       ·have hz1:((d+1-1)==0)=true:=by rw[beq_iff_eq];exact hz
        rw[if_pos hz]at hg;subst hg;clear hz;go_wp2;go_ret
        exact⟨rfl,rfl⟩
       ·have hz1:((d+1-1)==0)=false:=by rw[beq_eq_false_iff_ne];exact hz
        rw[if_neg hz]at hg;have HG2:=zq hg;clear hg hz;go_wp2;go_round
        case rel=>exact⟨j+1,d+1-1,by omega,by go_num,by go_num,by omega,by omega,HG2.out⟩
        case measure=>simp[intOf];omega
     ·skip
      have eo:o=d+1-1:=by rw[<-ho];simp
      have hg:=HG.out;rw[eo]at hg;clear ho eo HG;by_cases hz:d+1-1=0
      ·have hz1:((d+1-1)==0)=true:=by rw[beq_iff_eq];exact hz
       rw[if_pos hz]at hg;subst hg;clear hz;go_wp2;go_ret
       exact⟨rfl,rfl⟩
      ·have hz1:((d+1-1)==0)=false:=by rw[beq_eq_false_iff_ne];exact hz
       rw[if_neg hz]at hg;have HG2:=zq hg;clear hg hz;go_wp2;go_round
       case rel=>exact⟨j+1,d+1-1,by omega,by go_num,by go_num,by omega,by omega,HG2.out⟩
       case measure=>simp[intOf];omega
   ·skip
    cases b4
    ·skip
     cases b5
     ·skip
      have eo:o=d+1:=by rw[<-ho];simp
      have hg:=HG.out;rw[eo]at hg;clear ho eo HG;by_cases hz:d+1=0
      ·have hz1:((d+1)==0)=true:=by rw[beq_iff_eq];exact hz
       rw[if_pos hz]at hg;subst hg;clear hz;go_wp2;go_ret
       exact⟨rfl,rfl⟩
      ·have hz1:((d+1)==0)=false:=by rw[beq_eq_false_iff_ne];exact hz
       rw[if_neg hz]at hg;have HG2:=zq hg;clear hg hz;go_wp2;go_round
       case rel=>exact⟨j+1,d+1,by omega,by go_num,by go_num,by omega,by omega,HG2.out⟩
       case measure=>simp[intOf];omega
     ·skip
      have eo:o=d+1-1:=by rw[<-ho];simp
      have hg:=HG.out;rw[eo]at hg;clear ho eo HG;by_cases hz:d+1-1=0
      ·have hz1:((d+1-1)==0)=true:=by rw[beq_iff_eq];exact hz
       rw[if_pos hz]at hg;subst hg;clear hz;go_wp2;go_ret
       exact⟨rfl,rfl⟩
      ·have hz1:((d+1-1)==0)=false:=by rw[beq_eq_false_iff_ne];exact hz
       rw[if_neg hz]at hg;have HG2:=zq hg;clear hg hz;go_wp2;go_round
       case rel=>exact⟨j+1,d+1-1,by omega,by go_num,by go_num,by omega,by omega,HG2.out⟩
       case measure=>simp[intOf];omega
    ·skip
     have eo:o=d+1-1:=by rw[<-ho];simp
     have hg:=HG.out;rw[eo]at hg;clear ho eo HG;by_cases hz:d+1-1=0
     ·have hz1:((d+1-1)==0)=true:=by rw[beq_iff_eq];exact hz
      rw[if_pos hz]at hg;subst hg;clear hz;go_wp2;go_ret
      exact⟨rfl,rfl⟩
     ·have hz1:((d+1-1)==0)=false:=by rw[beq_eq_false_iff_ne];exact hz
      rw[if_neg hz]at hg;have HG2:=zq hg;clear hg hz;go_wp2;go_round
      case rel=>exact⟨j+1,d+1-1,by omega,by go_num,by go_num,by omega,by omega,HG2.out⟩
      case measure=>simp[intOf];omega
  ·skip
   cases b4
   ·skip
    cases b5
    ·skip
     have eo:o=d+1:=by rw[<-ho];simp
     have hg:=HG.out;rw[eo]at hg;clear ho eo HG;by_cases hz:d+1=0
     ·have hz1:((d+1)==0)=true:=by rw[beq_iff_eq];exact hz
      rw[if_pos hz]at hg;subst hg;clear hz;go_wp2;go_ret
      exact⟨rfl,rfl⟩
     ·have hz1:((d+1)==0)=false:=by rw[beq_eq_false_iff_ne];exact hz
      rw[if_neg hz]at hg;have HG2:=zq hg;clear hg hz;go_wp2;go_round
      case rel=>exact⟨j+1,d+1,by omega,by go_num,by go_num,by omega,by omega,HG2.out⟩
      case measure=>simp[intOf];omega
    ·skip
     have eo:o=d+1-1:=by rw[<-ho];simp
     have hg:=HG.out;rw[eo]at hg;clear ho eo HG;by_cases hz:d+1-1=0
     ·have hz1:((d+1-1)==0)=true:=by rw[beq_iff_eq];exact hz
      rw[if_pos hz]at hg;subst hg;clear hz;go_wp2;go_ret
      exact⟨rfl,rfl⟩
     ·have hz1:((d+1-1)==0)=false:=by rw[beq_eq_false_iff_ne];exact hz
      rw[if_neg hz]at hg;have HG2:=zq hg;clear hg hz;go_wp2;go_round
      case rel=>exact⟨j+1,d+1-1,by omega,by go_num,by go_num,by omega,by omega,HG2.out⟩
      case measure=>simp[intOf];omega
   ·skip
    have eo:o=d+1-1:=by rw[<-ho];simp
    have hg:=HG.out;rw[eo]at hg;clear ho eo HG;by_cases hz:d+1-1=0
    ·have hz1:((d+1-1)==0)=true:=by rw[beq_iff_eq];exact hz
     rw[if_pos hz]at hg;subst hg;clear hz;go_wp2;go_ret
     exact⟨rfl,rfl⟩
    ·have hz1:((d+1-1)==0)=false:=by rw[beq_eq_false_iff_ne];exact hz
     rw[if_neg hz]at hg;have HG2:=zq hg;clear hg hz;go_wp2;go_round
     case rel=>exact⟨j+1,d+1-1,by omega,by go_num,by go_num,by omega,by omega,HG2.out⟩
     case measure=>simp[intOf];omega
 ·obtain rfl:j=n:=by omega
  rw[Nat.sub_self,qba,hlen]at hg;subst hg;go_wp2;go_ret
  exact⟨rfl,rfl⟩
end
section
open Go.RowKit
theorem row_facts (v:Int)(h:0<=v/\v<96):(vrow v).most<2^(vrow v).width/\((vrow v).special<0\/0<(vrow v).special):=by
 have:=vall (fun i=>decide ((vrows.getD i vnone).most<2^(vrows.getD i vnone).width/\((vrows.getD i vnone).special<0\/0<(vrows.getD i vnone).special))) (by decide+kernel) v h.1 h.2;rw[qeI h];exact of_decide_eq_true this
theorem ref_may (v n:Int)(w:World):
  Calls Tryz.prog 217 #[.int .i64 v,.int .i64 n] w fun e w'=>e= .returned (.bool (mayOf v n))/\Below w.heap.size w w':=by
 have hg:=fun w=>get_row v w _ rfl;by_cases h:0<=v/\v<96
 ·have hf:=row_facts v h
  have hle:=qer v;rw[decide_eq_true h]at hg;rw[mayOf,decide_eq_true h,Bool.true_and,qbn,qbk,qa8,qak];rw[qak]at hle;generalize vrow v=R at*;have HG:=zq hg;clear hg;obtain⟨hf1,hf2⟩:=hf;obtain⟨P,hP⟩: ∃P,P=2^R.width:=⟨_,rfl⟩
  have hP2:P<=2^32:=by rw[hP];exact Nat.pow_le_pow_right (by omega) hle
  have hP1:1<=P:=by rw[hP];exact Nat.one_le_two_pow
  have e:((2:Int)^R.width)=(P:Int):=by rw[hP];simp
  have HP:=zq (fun w=>power_any R.width P (by omega) hP w);rw[e]at hf1⊢;clear e hP hle h;generalize hM:(if R.most<0 then(P:Int)-1 else R.most)=M;generalize hS:(if R.special<0 then 0 else R.special)=S;by_cases hn:0<=n
  ·rw[decide_eq_true hn,Bool.true_and]
   by_cases hnP:(P:Int)<=n
   ·have e1:(decide (n<=M)||(decide (S≠0) &&decide (S<=n) &&decide (n<=(P:Int)-1)))=false:=by
     have: ¬n<=M:=by split at hM<;>omega
     have: ¬n<=(P:Int)-1:=by omega
     simp[*]
    rw[e1];clear e1 hM hS hf1 hf2;go_enter Tryz.func217,Tryz.ntmps217;go_wp2_with fail;refine(HG.out _).mono ?_;rintro e w' ⟨rfl,hb⟩;have HB:=zq (hb.alloc hb.size (.cells #[.string R.name,.int .i64 ((R.width:Nat):Int),.int .i64 R.most,.int .i64 R.special] 232));clear hb;go_wp2_with fail;refine(HP.out _).mono ?_;rintro e w2 ⟨rfl,rfl⟩;go_wp2;go_ret
    exact⟨rfl,HB.out⟩
   ·by_cases hm:R.most<0
    ·have e1:decide (n<=M)=true:=by rw[if_pos hm]at hM;exact decide_eq_true (by omega)
     rw[e1,Bool.true_or];clear e1 hM hS hf1 hf2;go_enter Tryz.func217,Tryz.ntmps217;go_wp2_with fail;refine(HG.out _).mono ?_;rintro e w' ⟨rfl,hb⟩;have HB:=zq (hb.alloc hb.size (.cells #[.string R.name,.int .i64 ((R.width:Nat):Int),.int .i64 R.most,.int .i64 R.special] 232));clear hb;go_wp2_with fail;refine(HP.out _).mono ?_;rintro e w2 ⟨rfl,rfl⟩;go_wp2;go_ret
     exact⟨rfl,HB.out⟩
    ·rw[if_neg hm]at hM
     subst hM;by_cases hnm:n<=R.most
     ·rw[decide_eq_true hnm,Bool.true_or]
      clear hS hf1 hf2;go_enter Tryz.func217,Tryz.ntmps217;go_wp2_with fail;refine(HG.out _).mono ?_;rintro e w' ⟨rfl,hb⟩;have HB:=zq (hb.alloc hb.size (.cells #[.string R.name,.int .i64 ((R.width:Nat):Int),.int .i64 R.most,.int .i64 R.special] 232));clear hb;go_wp2_with fail;refine(HP.out _).mono ?_;rintro e w2 ⟨rfl,rfl⟩;go_wp2;go_ret
      exact⟨rfl,HB.out⟩
     ·rw[decide_eq_false hnm,Bool.false_or]
      by_cases hs:R.special<0
      ·rw[if_pos hs]at hS
       subst hS;have hs2: ¬0<=R.special:=by omega
       have e1:(decide ((0:Int)≠0) &&decide (0<=n) &&decide (n<=(P:Int)-1))=false:=by simp
       rw[e1];clear e1 hf1 hf2;go_enter Tryz.func217,Tryz.ntmps217;go_wp2_with fail;refine(HG.out _).mono ?_;rintro e w' ⟨rfl,hb⟩;have HB:=zq (hb.alloc hb.size (.cells #[.string R.name,.int .i64 ((R.width:Nat):Int),.int .i64 R.most,.int .i64 R.special] 232));clear hb;go_wp2_with fail;refine(HP.out _).mono ?_;rintro e w2 ⟨rfl,rfl⟩;go_wp2;go_ret
       exact⟨by show Ending.returned (.bool (decide (R.most<0)||decide (n<=R.most)))=_;rw[decide_eq_false (by omega),decide_eq_false (by omega)];rfl,HB.out⟩
      ·rw[if_neg hs]at hS
       subst hS;by_cases hsn:R.special<=n
       ·have e1:(decide (R.special≠0) &&decide (R.special<=n) &&decide (n<=(P:Int)-1))=true:=by
         have:R.special≠0:=by omega
         have:n<=(P:Int)-1:=by omega
         simp[*]
        rw[e1];clear e1 hf1 hf2;go_enter Tryz.func217,Tryz.ntmps217;go_wp2_with fail;refine(HG.out _).mono ?_;rintro e w' ⟨rfl,hb⟩;have HB:=zq (hb.alloc hb.size (.cells #[.string R.name,.int .i64 ((R.width:Nat):Int),.int .i64 R.most,.int .i64 R.special] 232));clear hb;go_wp2_with fail;refine(HP.out _).mono ?_;rintro e w2 ⟨rfl,rfl⟩;go_wp2;go_ret
        exact⟨rfl,HB.out⟩
       ·have e1:(decide (R.special≠0) &&decide (R.special<=n) &&decide (n<=(P:Int)-1))=false:=by simp[hsn]
        rw[e1];clear e1 hf1 hf2;go_enter Tryz.func217,Tryz.ntmps217;go_wp2_with fail;refine(HG.out _).mono ?_;rintro e w' ⟨rfl,hb⟩;have HB:=zq (hb.alloc hb.size (.cells #[.string R.name,.int .i64 ((R.width:Nat):Int),.int .i64 R.most,.int .i64 R.special] 232));clear hb;go_wp2_with fail;refine(HP.out _).mono ?_;rintro e w2 ⟨rfl,rfl⟩;go_wp2;go_ret
        exact⟨by show Ending.returned (.bool (decide (R.most<0)||decide (n<=R.most)||decide (R.special<=n)))=_;rw[decide_eq_false (by omega),decide_eq_false (by omega),decide_eq_false (by omega)];rfl,HB.out⟩
  ·have e1:decide (0<=n)=false:=decide_eq_false hn
   rw[e1,Bool.false_and];clear e1 hM hS hf1 hf2;go_enter Tryz.func217,Tryz.ntmps217;go_wp2_with fail;refine(HG.out _).mono ?_;rintro e w' ⟨rfl,hb⟩;have HB:=zq (hb.alloc hb.size (.cells #[.string R.name,.int .i64 ((R.width:Nat):Int),.int .i64 R.most,.int .i64 R.special] 232));clear hb;go_wp2;go_ret
   exact⟨rfl,HB.out⟩
 ·have e1:mayOf v n=false:=by simp[mayOf,h]
  rw[e1];rw[decide_eq_false h]at hg;clear e1 h;generalize vrow v=R at*;have HG:=zq hg;clear hg;go_enter Tryz.func217,Tryz.ntmps217;go_wp2_with fail;refine(HG.out _).mono ?_;rintro e w' ⟨rfl,hb⟩;have HB:=zq (hb.alloc hb.size (.cells #[.string R.name,.int .i64 ((R.width:Nat):Int),.int .i64 R.most,.int .i64 R.special] 232));clear hb;go_wp2;go_ret
  exact⟨rfl,HB.out⟩
end
section
open Go.RowKit
open BitsM
structure WS where
 V:List Int
 rd:Bool
 bits:List Bool
 out:List (Int×Int)
 got:List Int
 e:Int
 place:Int
def fetch (v:Int)(s:WS):Int×WS:=
 if s.rd=true then(if s.bits.length<qak v then(0, {s with e:=10})else((num (s.bits.take (qak v)):Nat), {s with bits:=s.bits.drop (qak v)}))
 else if v=7 then(0,s)else if s.V=[]then(0, {s with e:=20})else(s.V.headD 0, {s with V:=s.V.tail})
def keep (v n:Int)(s:WS):WS:=
 if v=7 then {s with place:=s.out.length,out:=s.out++[(n,(qak v:Int))]} else if v=5 then {s with out:=s.out++[(n,(qak v:Int))]} else {s with got:=s.got++[n],out:=s.out++[(n,(qak v:Int))]}
def oneS (v:Int)(s:WS):Int×WS:=
 if s.e≠0 then(0,s)else if(fetch v s).2.e≠0 then(0,(fetch v s).2)else if mayOf v (fetch v s).1=false then(0, {(fetch v s).2 with e:=20})else((fetch v s).1,keep v (fetch v s).1 (fetch v s).2)
def ints (l:List Int):List Value:=l.map (.int .i64)
def pairs (l:List (Int×Int)):List Value:=l.flatMap fun x=>[.int .i64 x.1,.int .i64 x.2]
def low (base:Nat)(A:Option Addr):Prop:= ∀a,A=some a->a.block<base
structure SlI (base:Nat) (w:World) (A:Option Addr) (m c:Nat) (l:List Int):Prop where
 len:l.length=m
 cap:m<=c
 sl:Sl w 1 A m c (ints l)
 low:0<c->low base A
structure SlL (base:Nat) (w:World) (A:Option Addr) (m c:Nat) (l:List Bool):Prop where
 sl:SlB w A m c l
 cap:m<=c
 low:low base A
structure WkR (base:Nat) (w:World) (s:WS) (AV:Option Addr) (nV cV:Nat) (AB:Option Addr) (nB cB:Nat) (AO:Option Addr) (nO cO:Nat) (AG:Option Addr) (nG cG:Nat):Prop where
 v:SlI base w AV nV cV s.V
 b:SlL base w AB nB cB s.bits
 lo:s.out.length=nO
 lg:s.got.length=nG
 o:w.ownsRow base 185 2 (.slice AO nO cO) nO (pairs s.out)
 g:w.ownsRow base 3 1 (.slice AG nG cG) nG (ints s.got)
def wkCells (s:WS)(AV:Option Addr)(nV cV:Nat)(AB:Option Addr)(nB cB:Nat)(AO:Option Addr)(nO cO:Nat)(AG:Option Addr)(nG cG:Nat):Array Value:=
 #[.slice AV nV cV, .bool s.rd, .slice AB nB cB, .slice AO nO cO, .slice AG nG cG, .int .i64 s.e, .int .i64 s.place]
def WkAt (base g:Nat)(w:World)(s:WS):Prop:=base<=g/\ ∃AV nV cV AB nB cB AO nO cO AG nG cG,Has w g 188 (wkCells s AV nV cV AB nB cB AO nO cO AG nG cG)/\WkR base w s AV nV cV AB nB cB AO nO cO AG nG cG
theorem qfa (a:Addr)(j:Nat):(a.add j).block=a.block:=by unfold Addr.add;split<;>rfl
theorem low_sl {w w':World}{A:Option Addr}{m c size:Nat}{vs:List Value}{base:Nat}(h:Sl w size A m c vs)(hl:low base A)(hb:Below base w w'):Sl w' size A m c vs:=
 ⟨h.1,h.2.1,fun ad ha j u hu=>by have h0:=h.2.2 ad ha j u hu;rw[hb.cell (by rw[qfa];exact hl ad ha)];exact h0⟩
section
variable {base g:Nat} {w w':World} {s:WS} {AV:Option Addr} {nV cV:Nat} {AB:Option Addr} {nB cB:Nat} {AO:Option Addr} {nO cO:Nat} {AG:Option Addr} {nG cG:Nat}
theorem SlI.below {m c:Nat}{A:Option Addr}{l:List Int}(h:SlI base w A m c l)(hb:Below base w w'):SlI base w' A m c l:=by
 refine⟨h.len,h.cap,?_,h.low⟩;by_cases hc:0<c
 ·exact low_sl h.sl (h.low hc) hb
 ·have h0:l=[]:=List.eq_nil_of_length_eq_zero (by have:=h.len;have:=h.cap;omega)
  subst h0;exact⟨h.sl.1,h.sl.2.1,fun ad _ j u hu=>by simp[ints]at hu⟩
theorem SlL.below {m c:Nat}{A:Option Addr}{l:List Bool}(h:SlL base w A m c l)(hb:Below base w w'):SlL base w' A m c l:=⟨⟨h.sl.1,low_sl h.sl.2 h.low hb⟩,h.cap,h.low⟩
theorem WkR.under (h:WkR base w s AV nV cV AB nB cB AO nO cO AG nG cG)(hb:Below w.heap.size w w')(hB:base<=w.heap.size):WkR base w' s AV nV cV AB nB cB AO nO cO AG nG cG:=
 ⟨h.v.below (hb.mono hB),h.b.below (hb.mono hB),h.lo,h.lg,qdj h.o hb (Nat.le_refl _),qdj h.g hb (Nat.le_refl _)⟩
theorem qaU (hg:base<=g)(hB:base<=w.heap.size)(i:Nat)(u:Value):Below base w (w.setCell ⟨g,i,none⟩ u):=
 (Below.refl base w).grown (row:=some g) (qb9 (qbB w (some g)) rfl u) hB (fun k hk=>by injection hk with hk;omega)
theorem WkR.store {cs:Array Value}(h:WkR base w s AV nV cV AB nB cB AO nO cO AG nG cG)(hh:Has w g 188 cs)(hg:base<=g)(hB:base<=w.heap.size)(i:Nat)(u:Value):WkR base (w.setCell ⟨g,i,none⟩ u) s AV nV cV AB nB cB AO nO cO AG nG cG:=by
 have hgr:w.grownBy (w.setCell ⟨g,i,none⟩ u) (some g):=qb9 (qbB w (some g)) rfl u;have hb:Below base w (w.setCell ⟨g,i,none⟩ u):=(Below.refl base w).grown hgr hB (fun k hk=>by injection hk with hk;omega);exact⟨h.v.below hb,h.b.below hb,h.lo,h.lg,qeg h.o hgr (qa0 h.o hh (by decide)),qeg h.g hgr (qa0 h.g hh (by decide))⟩
end
theorem one_done (base g:Nat)(v:Int)(s:WS)(w:World)(h:WkAt base g w s)(he:s.e≠0):
  Calls Tryz.prog 188 #[.pointer (some ⟨g,0,none⟩),.int .i64 v] w fun e w'=>e= .returned (.int .i64 0)/\w=w':=by
 obtain⟨hg,AV,nV,cV,AB,nB,cB,AO,nO,cO,AG,nG,cG,hh,hr⟩:=h;have q5:w.cell? ⟨g,5,none⟩=some (.int .i64 s.e):=hh.cell 5;have h1:(s.e !=0)=true:=by simp[he]
 clear hh hr;go_enter Tryz.func188,Tryz.ntmps188;go_wp2;go_ret
 exact⟨rfl,rfl⟩
theorem qfN (v:Int)(h0:0<=v)(h1:v<96):1<=qak v/\qak v<=32:=by
 have h:=vall (fun n=>decide (1<=qak n) &&decide (qak n<=32)) (by kernel_rfl) v h0 h1;rw[Int.toNat_of_nonneg h0]at h
 simpa using h
def qgz (w w':World):Prop:= ∀(k:Nat) (cs:Array Value) (fr:Nat×Nat),w.heap[k]?=some (.cells cs 9 fr)->w'.heap[k]?=some (.cells cs 9 fr)
structure Fr (base:Nat) (w w':World):Prop where
 b:Below base w w'
 k:qgz w w'
theorem Fr.refl (base:Nat)(w:World):Fr base w w:=⟨Below.refl _ _,fun _ _ _ h=>h⟩
theorem Fr.trans {base:Nat}{a b c:World}(h:Fr base a b)(k:Fr base b c):Fr base a c:=⟨h.b.trans k.b,fun i cs fr x=>k.k i cs fr (h.k i cs fr x)⟩
theorem Fr.size {base:Nat}{a b:World}(h:Fr base a b):a.heap.size<=b.heap.size:=h.b.size
theorem keep_call {w w':World}(hb:Below w.heap.size w w'):qgz w w':=fun k cs fr h=>by
 have hk:k<w.heap.size:=(Array.getElem?_eq_some_iff.1 h).1;rw[hb.block k hk];exact h
theorem fr_call {base:Nat}{w w':World}(hb:Below w.heap.size w w')(hB:base<=w.heap.size):Fr base w w':=⟨hb.mono hB,keep_call hb⟩
theorem fr_draws {base:Nat}(w:World)(n:Nat):Fr base w (w.drewN n):=⟨qaa (Below.refl _ _) n,fun _ _ _ h=>h⟩
theorem Fr.alloc {base:Nat}{a w:World}(h:Fr base a w)(hB:base<=w.heap.size)(o:Obj):Fr base a (w.alloc o):=h.trans (fr_call ((Below.refl _ w).alloc (Nat.le_refl _) o) hB)
theorem qfk {w w':World}{row:Option Nat}(hg:w.grownBy w' row)(hr: ∀k cs fr,w.heap[k]?=some (.cells cs 9 fr)->some k≠row):qgz w w':=fun k cs fr h=>by
 rw[hg.block k (Array.getElem?_eq_some_iff.1 h).1 (hr k cs fr h)];exact h
theorem qbR {base g:Nat}{w:World}{cs:Array Value}(hh:Has w g 188 cs)(hg:base<=g)(hB:base<=w.heap.size)(i:Nat)(u:Value):Fr base w (w.setCell ⟨g,i,none⟩ u):=by
 refine⟨qaU hg hB i u,qfk (row:=some g) (qb9 (qbB w (some g)) rfl u) ?_⟩;intro k cs' fr h e;injection e with e
 subst e;unfold Has at hh;rw[hh]at h;injection h with h
 injection h with _ h
 exact absurd h (by decide)
theorem own_nostr {w:World}{base n sz:Nat}{e:TypeId}{v:Value}{xs:List Value}(h:w.ownsRow base e sz v n xs)(hne:e≠9): ∀k cs fr,w.heap[k]?=some (.cells cs 9 fr)->some k≠v.ownBlock:=by
 intro k cs fr hk he
 rcases h.2 with⟨rfl,_⟩|⟨g,cap,cur,rfl,_,hh,_⟩
 ·simp[Value.ownBlock]at he
 ·have e':k=g:=by simpa[Value.ownBlock]using he
  subst e';rw[hh]at hk;injection hk with hk
  injection hk with _ hk
  exact absurd hk hne
theorem own_two {w:World}{base n1 n2 s1 s2:Nat}{e1 e2:TypeId}{v1 v2:Value}{x1 x2:List Value}(h1:w.ownsRow base e1 s1 v1 n1 x1)(h2:w.ownsRow base e2 s2 v2 n2 x2)(hne:e1≠e2):v1.ownBlock=none\/v1.ownBlock≠v2.ownBlock:=by
 rcases h2.2 with⟨rfl,_⟩|⟨g,cap,cur,rfl,_,hh,_⟩
 ·cases h:v1.ownBlock
  ·exact .inl rfl
  ·exact .inr (by simp[Value.ownBlock])
 ·exact .inr (qa0 h1 hh hne)
theorem info_int:(Tryz.prog.info? 3).map (fun i=>(i.zero,i.size,i.bytes))=some (some (.int .i64 0),1,8):=by kernel_rfl
theorem qcE:(Tryz.prog.info? 185).map (fun i=>(i.zero,i.size,i.bytes))=some (some (.agg #[.int .i64 0,.int .i64 0]),2,16):=by kernel_rfl
theorem qcb (w:World)(cs:Array Value)(t:TypeId)(l:List Value)(h:cs=l.toArray):Hid (∀i u,l[i]?=some u->(w.alloc (.cells cs t)).cell? ((⟨w.heap.size,0,none⟩:Addr).add i)=some u):=by
 subst h;intro i u hu;rw[WideShapes.add_plain,(Has.made w t _).cell,Nat.zero_add]
 simpa using hu
section
variable {base g:Nat} {w w':World} {s:WS} {AV:Option Addr} {nV cV:Nat} {AB:Option Addr} {nB cB:Nat} {AO:Option Addr} {nO cO:Nat} {AG:Option Addr} {nG cG:Nat}
theorem WkR.growG (h:WkR base w s AV nV cV AB nB cB AO nO cO AG nG cG)(hB:base<=w.heap.size)(n:Int)(A':Option Addr)(c':Nat)(ho:w'.ownsRow base 3 1 (.slice A' (nG+1) c') (nG+1) (ints s.got++[.int .i64 n]))(hg:w.grownBy w' (Value.ownBlock (.slice AG nG cG))):
  WkR base w' {s with got:=s.got++[n]} AV nV cV AB nB cB AO nO cO A' (nG+1) c'/\Fr base w w':=by
 have hb:Below base w w':=qas (Below.refl base w) hB h.g (Nat.le_refl _) rfl hg;refine⟨⟨h.v.below hb,h.b.below hb,h.lo,by simp[h.lg],World.ownsRow.kept h.o hg (own_two h.o h.g (by decide)),?_⟩,hb,qfk hg (own_nostr h.g (by decide))⟩
 simpa[ints]using ho
theorem WkR.growO (h:WkR base w s AV nV cV AB nB cB AO nO cO AG nG cG)(hB:base<=w.heap.size)(n k:Int)(A':Option Addr)(c':Nat)(ho:w'.ownsRow base 185 2 (.slice A' (nO+1) c') (nO+1) (pairs s.out++[.int .i64 n,.int .i64 k]))(hg:w.grownBy w' (Value.ownBlock (.slice AO nO cO))):
  WkR base w' {s with out:=s.out++[(n,k)]} AV nV cV AB nB cB A' (nO+1) c' AG nG cG/\Fr base w w':=by
 have hb:Below base w w':=qas (Below.refl base w) hB h.o (Nat.le_refl _) rfl hg;refine⟨⟨h.v.below hb,h.b.below hb,by simp[h.lo],h.lg,?_,World.ownsRow.kept h.g hg (own_two h.g h.o (by decide))⟩,hb,qfk hg (own_nostr h.o (by decide))⟩
 simpa[pairs]using ho
theorem WkR.beside (h:WkR base w s AV nV cV AB nB cB AO nO cO AG nG cG)(hB:base<=w.heap.size)(o:Obj):WkR base (w.alloc o) s AV nV cV AB nB cB AO nO cO AG nG cG:=
 h.under ((Below.refl _ w).alloc (Nat.le_refl _) o) hB
end
theorem one_live (base g:Nat)(v:Int)(s:WS)(w:World)(h:WkAt base g w s)(hB:base<=w.heap.size)(he:s.e=0)(hv0:0<=v)(hv1:v<96)(hbits:s.bits.length<=1048576)(ho:s.out.length<=1048576)(hgo:s.got.length<=1048576)(hV:s.V.length<=1048576):
  Calls Tryz.prog 188 #[.pointer (some ⟨g,0,none⟩),.int .i64 v] w fun e w'=>e= .returned (.int .i64 (oneS v s).1)/\WkAt base g w' (oneS v s).2/\Fr base w w':=by
 obtain⟨k1,k2⟩:=qfN v hv0 hv1;obtain⟨M,hM⟩:=geZ (oneS v s);rw[hM];rw[oneS,if_neg (by simp[he])]at hM;have HM:=zq hM;clear hM;obtain⟨hg,AV,nV,cV,AB,nB,cB,AO,nO,cO,AG,nG,cG,hh,hr⟩:=h;have q5:w.cell? ⟨g,5,none⟩=some (.int .i64 0):=by rw[<-he];exact hh.cell 5
 have HH:=zq hh;have HR:=zq hr;clear hh hr;go_enter Tryz.func188,Tryz.ntmps188;go_wp2_with fail;refine(ref_width v w).mono ?_;rintro e w1 ⟨rfl,b1⟩;have HB1:=zq (fr_call b1 hB);have hB1:base<=w1.heap.size:=Nat.le_trans hB b1.size;have HH1:=uH HH b1;have HR1:=zq (HR.out.under b1 hB);clear b1 q5 HH HR;obtain⟨k,hk⟩:=geZ (qak v);rw[hk]at k1 k2⊢;have HK:=zq hk;clear hk;have q1:w1.cell? ⟨g,1,none⟩=some (.bool s.rd):=HH1.out.cell 1;have q2:w1.cell? ⟨g,2,none⟩=some (.slice AB nB cB):=HH1.out.cell 2;have q0:w1.cell? ⟨g,0,none⟩=some (.slice AV nV cV):=HH1.out.cell 0;have z5:w1.frozen? ⟨g,5,none⟩=false:=HH1.out.thaw 5;have z2:w1.frozen? ⟨g,2,none⟩=false:=HH1.out.thaw 2;have z0:w1.frozen? ⟨g,0,none⟩=false:=HH1.out.thaw 0;have hnB:=HR1.out.b.sl.1;have hnV:=HR1.out.v.len;have q2:w1.cell? ⟨g,2,none⟩=some (.slice AB nB cB):=HH1.out.cell 2;have q0:w1.cell? ⟨g,0,none⟩=some (.slice AV nV cV):=HH1.out.cell 0;have z5:w1.frozen? ⟨g,5,none⟩=false:=HH1.out.thaw 5;have z2:w1.frozen? ⟨g,2,none⟩=false:=HH1.out.thaw 2;have z0:w1.frozen? ⟨g,0,none⟩=false:=HH1.out.thaw 0;have hnB:=HR1.out.b.sl.1;have hnV:=HR1.out.v.len;have q2:w1.cell? ⟨g,2,none⟩=some (.slice AB nB cB):=HH1.out.cell 2;have q0:w1.cell? ⟨g,0,none⟩=some (.slice AV nV cV):=HH1.out.cell 0;have q5:w1.cell? ⟨g,5,none⟩=some (.int .i64 s.e):=HH1.out.cell 5;have z5:w1.frozen? ⟨g,5,none⟩=false:=HH1.out.thaw 5;have z2:w1.frozen? ⟨g,2,none⟩=false:=HH1.out.thaw 2;have z0:w1.frozen? ⟨g,0,none⟩=false:=HH1.out.thaw 0;have hnB:=HR1.out.b.sl.1;have hnV:=HR1.out.v.len;have q2:w1.cell? ⟨g,2,none⟩=some (.slice AB nB cB):=HH1.out.cell 2;have q0:w1.cell? ⟨g,0,none⟩=some (.slice AV nV cV):=HH1.out.cell 0;have q5:w1.cell? ⟨g,5,none⟩=some (.int .i64 s.e):=HH1.out.cell 5;have z5:w1.frozen? ⟨g,5,none⟩=false:=HH1.out.thaw 5;have z2:w1.frozen? ⟨g,2,none⟩=false:=HH1.out.thaw 2;have z0:w1.frozen? ⟨g,0,none⟩=false:=HH1.out.thaw 0;have hnB:=HR1.out.b.sl.1;have hnV:=HR1.out.v.len;have q2:w1.cell? ⟨g,2,none⟩=some (.slice AB nB cB):=HH1.out.cell 2;have q0:w1.cell? ⟨g,0,none⟩=some (.slice AV nV cV):=HH1.out.cell 0;have q5:w1.cell? ⟨g,5,none⟩=some (.int .i64 s.e):=HH1.out.cell 5;have z5:w1.frozen? ⟨g,5,none⟩=false:=HH1.out.thaw 5;have z2:w1.frozen? ⟨g,2,none⟩=false:=HH1.out.thaw 2;have z0:w1.frozen? ⟨g,0,none⟩=false:=HH1.out.thaw 0;have hnB:=HR1.out.b.sl.1;have hnV:=HR1.out.v.len;have q2:w1.cell? ⟨g,2,none⟩=some (.slice AB nB cB):=HH1.out.cell 2;have q0:w1.cell? ⟨g,0,none⟩=some (.slice AV nV cV):=HH1.out.cell 0;have q5:w1.cell? ⟨g,5,none⟩=some (.int .i64 s.e):=HH1.out.cell 5;have z5:w1.frozen? ⟨g,5,none⟩=false:=HH1.out.thaw 5;have z2:w1.frozen? ⟨g,2,none⟩=false:=HH1.out.thaw 2;have z0:w1.frozen? ⟨g,0,none⟩=false:=HH1.out.thaw 0;have hnB:=HR1.out.b.sl.1;have hnV:=HR1.out.v.len;have q2:w1.cell? ⟨g,2,none⟩=some (.slice AB nB cB):=HH1.out.cell 2;have q0:w1.cell? ⟨g,0,none⟩=some (.slice AV nV cV):=HH1.out.cell 0;have q5:w1.cell? ⟨g,5,none⟩=some (.int .i64 s.e):=HH1.out.cell 5;have z5:w1.frozen? ⟨g,5,none⟩=false:=HH1.out.thaw 5;have z2:w1.frozen? ⟨g,2,none⟩=false:=HH1.out.thaw 2;have z0:w1.frozen? ⟨g,0,none⟩=false:=HH1.out.thaw 0;have hnB:=HR1.out.b.sl.1;have hnV:=HR1.out.v.len;go_upto_if 21 with fail;go_cut [6] (fun n6 wx=> ∃(n1:Int) (s1:WS),n6= .int .i64 n1/\fetch v s=(n1,s1)/\s1.e=0/\s1.out.length<=1048576/\s1.got.length<=1048576/\WkAt base g wx s1/\Fr base w1 wx)
 case first=>
  cases hrd:s.rd
  ·rw[hrd]at q1
   by_cases h7:v=7
   ·have hfe:fetch v s=(0,s):=by rw[fetch,if_neg (by rw[hrd];decide),if_pos h7]
    have h71:(v !=7)=false:=by simp[h7]
    clear hrd;go_wp2_with fail;go_meet
    exact⟨0,s,rfl,hfe,he,ho,hgo,⟨hg,AV,nV,cV,AB,nB,cB,AO,nO,cO,AG,nG,cG,HH1.out,HR1.out⟩,Fr.refl _ _⟩
   ·have h71:(v !=7)=true:=by simp[h7]
    by_cases hnil:s.V=[]
    ·have hfe:fetch v s=(0, {s with e:=20}):=by rw[fetch,if_neg (by rw[hrd];decide),if_neg h7,if_pos hnil]
     have hn0:nV=0:=by rw[<-hnV,hnil];rfl
     subst hn0;have hM:=HM.out;rw[hfe,if_pos (show(20:Int)≠0 by decide)]at hM;subst hM;clear hrd hnil hfe;go_wp2;go_ret
     have hr:=HR1.out.store HH1.out hg hB1 5 (.int .i64 20);exact⟨rfl,⟨hg,AV,0,cV,AB,nB,cB,AO,nO,cO,AG,nG,cG,HH1.out.stored 5 (.int .i64 20),⟨hr.v,hr.b,hr.lo,hr.lg,hr.o,hr.g⟩⟩,HB1.out.trans (qbR HH1.out hg hB1 _ _)⟩
    ·obtain⟨V0,VT,hVc⟩: ∃V0 VT,s.V=V0::VT:=List.exists_cons_of_ne_nil hnil
     have hfe:fetch v s=(V0, {s with V:=VT}):=by rw[fetch,if_neg (by rw[hrd];decide),if_neg h7,if_neg hnil,hVc];rfl
     obtain⟨m,hm⟩: ∃m,nV=m+1:=⟨nV-1,by rw[<-hnV,hVc];simp⟩
     subst hm;have hne:(((m+1:Nat):Int)==0)=false:=by rw[beq_eq_false_iff_ne];omega
     obtain⟨vb,voff,rfl,hcv⟩:=HR1.out.v.sl.at_ (j:=0) (u:= .int .i64 V0) (by rw[hVc];rfl);rw[Nat.add_zero]at hcv;have hcapv:=HR1.out.v.cap;have hsl:=HR1.out.v.sl.from_ hcapv (p:=1) (by omega);have hbk:=qew (A:=some ⟨vb,voff,none⟩) (c:=cV) (p:=1);obtain⟨A2,hA2⟩:=geZ ((if cV=1 then some (⟨vb,voff,none⟩:Addr)else(some (⟨vb,voff,none⟩:Addr)).map (·.add (1*1))));have e1: ∀w,(Instr.sliceAt 22 (.slice (some ⟨vb,voff,none⟩) (m+1) cV) (some (.int .i64 1)) none none).run Tryz.prog w= .ok (.slice A2 m (cV-1)) w:=by
      intro w;have:=cut_from 22 3 Tryz.underlying22 (by kernel_rfl) (by kernel_rfl) (some ⟨vb,voff,none⟩) (m+1) cV 1 (by omega) w;rw[hA2]at this;exact this
     rw[hA2]at hsl hbk;have hlow:low base A2:=fun a' ha'=>by
      obtain⟨a,h1,h2⟩:=hbk a' ha';rw[h2];exact HR1.out.v.low (by omega) a h1
     have hVT:SlI base w1 A2 m (cV-1) VT:=⟨by have:=hnV;rw[hVc]at this;simpa using this,by omega,by rw[hVc]at hsl;exact hsl,fun _=>hlow⟩
     have HVT:=zq hVT;have HFE:=zq hfe;have HVC:=zq hVc;clear hVT hlow hsl hbk hA2 hnil hrd hfe hVc;go_wp2_with fail;go_meet
     have hr:=HR1.out.store HH1.out hg hB1 0 (.slice A2 m (cV-1));exact⟨V0, {s with V:=VT},rfl,HFE.out,he,ho,hgo,⟨hg,A2,m,cV-1,AB,nB,cB,AO,nO,cO,AG,nG,cG,HH1.out.stored 0 _,⟨HVT.out.below (qaU hg hB1 _ _),hr.b,hr.lo,hr.lg,hr.o,hr.g⟩⟩,qbR HH1.out hg hB1 _ _⟩
  ·rw[hrd]at q1
   by_cases hs:s.bits.length<k
   ·have hfe:fetch v s=(0, {s with e:=10}):=by rw[fetch,if_pos hrd,HK.out,if_pos hs]
    have hM:=HM.out;rw[hfe,if_pos (show(10:Int)≠0 by decide)]at hM;have hc:=refGet_short AB nB cB (k:Int) (by omega) (by omega) (by omega) w1;subst hM;clear hrd hfe;go_wp2_with fail;refine hc.mono ?_;clear hc;rintro e w' ⟨rfl,rfl⟩;go_wp2;go_ret
    have hr:=HR1.out.store HH1.out hg hB1 5 (.int .i64 10);exact⟨rfl,⟨hg,AV,nV,cV,AB,nB,cB,AO,nO,cO,AG,nG,cG,HH1.out.stored 5 (.int .i64 10),⟨hr.v,hr.b,hr.lo,hr.lg,hr.o,hr.g⟩⟩,HB1.out.trans (qbR HH1.out hg hB1 _ _)⟩
   ·have hfe:fetch v s=(((num (s.bits.take k):Nat):Int), {s with bits:=s.bits.drop k}):=by rw[fetch,if_pos hrd,HK.out,if_neg hs]
    have HFE0:=zq hfe;clear hfe;have HRD:=zq hrd;clear hrd;have hc:=refGet_fits2 AB nB cB s.bits k (by omega) (by omega) (by omega) (by omega) HR1.out.b.cap w1 HR1.out.b.sl;have HC:=zq hc;clear hc;go_wp2_with fail;refine HC.out.mono ?_;rintro e w' ⟨A2,rfl,hsl,⟨nd,rfl⟩,hbk⟩;have hlow:low base A2:=fun a' ha'=>by
     obtain⟨a,h1,h2⟩:=hbk a' ha';rw[h2];exact HR1.out.b.low a h1
    have hSL:SlL base (w1.drewN nd) A2 (nB-k) (cB-k) (s.bits.drop k):=⟨hsl,by have:=HR1.out.b.cap;omega,hlow⟩
    have HSL:=zq hSL;have HH2:=zq (HH1.out.draws nd);have HR2:=zq (HR1.out.under (qaa (Below.refl _ _) nd) hB1);have hb2:base<=(w1.drewN nd).heap.size:=hB1;have hbd:Fr base w1 (w1.drewN nd):=fr_draws w1 nd;have HBD:=zq hbd;clear hbk hlow hSL hsl HC hbd;have HFE:=HFE0;clear HFE0;go_wp2_with fail;go_meet
    have hr:=HR2.out.store HH2.out hg hb2 2 (.slice A2 (nB-k) (cB-k));exact⟨_, {s with bits:=s.bits.drop k},rfl,HFE.out,he,ho,hgo,⟨hg,AV,nV,cV,A2,nB-k,cB-k,AO,nO,cO,AG,nG,cG,HH2.out.stored 2 _,⟨hr.v,HSL.out.below (qaU hg hb2 _ _),hr.lo,hr.lg,hr.o,hr.g⟩⟩,HBD.out.trans (qbR HH2.out hg hb2 _ _)⟩
 clear q1 q2 q0 q5 z5 z2 z0;obtain⟨n1,s1,rfl,hfe,he1,ho1,hgo1,⟨_,AV,nV,cV,AB,nB,cB,AO,nO,cO,AG,nG,cG,hh,hr⟩,hbc⟩:=hcut;have hM:=HM.out;rw[hfe,if_neg (by simp[he1])]at hM;have HBC:=zq (HB1.out.trans hbc);have hBC:base<=wc.heap.size:=Nat.le_trans hB1 hbc.size;have HHC:=zq hh;have HRC:=zq hr;have hloO:=hr.lo;have hlgG:=hr.lg;have cm:=ref_may v n1 wc;clear hfe hbc hh hr HH1 HR1 HM hnB hnV;simp only at hM;obtain⟨mb,hmb⟩:=geZ (mayOf v n1);rw[hmb]at hM cm;clear hmb;go_wp2_with fail;refine cm.mono ?_;clear cm;rintro e w2 ⟨rfl,b2⟩;have HB2:=zq (HBC.out.trans (fr_call b2 hBC));have hB2:base<=w2.heap.size:=Nat.le_trans hBC b2.size;have HH2:=uH HHC b2;have HR2:=zq (HRC.out.under b2 hBC);clear b2 HHC HRC HBC
 cases mb
 ·rw[if_pos rfl]at hM
  subst hM;have q5:w2.cell? ⟨g,5,none⟩=some (.int .i64 s1.e):=HH2.out.cell 5;have z5:w2.frozen? ⟨g,5,none⟩=false:=HH2.out.thaw 5;clear he1;go_wp2;go_ret
  have hr:=HR2.out.store HH2.out hg hB2 5 (.int .i64 20);exact⟨rfl,⟨hg,AV,nV,cV,AB,nB,cB,AO,nO,cO,AG,nG,cG,HH2.out.stored 5 (.int .i64 20),⟨hr.v,hr.b,hr.lo,hr.lg,hr.o,hr.g⟩⟩,HB2.out.trans (qbR HH2.out hg hB2 _ _)⟩
 ·rw[if_neg (by decide)]at hM
  rw[keep,HK.out]at hM;by_cases h7:v=7
  ·rw[if_pos h7]at hM
   have h71:(v==7)=true:=by simp[h7]
   have p3:w2.cell? ⟨g,3,none⟩=some (.slice AO nO cO):=HH2.out.cell 3;have p6:w2.cell? ⟨g,6,none⟩=some (.int .i64 s1.place):=HH2.out.cell 6;have z6:w2.frozen? ⟨g,6,none⟩=false:=HH2.out.thaw 6;have HHx:Hid (Has (w2.setCell ⟨g,6,none⟩ (.int .i64 (nO:Int))) g 188 (wkCells {s1 with place:=nO} AV nV cV AB nB cB AO nO cO AG nG cG)):=zq (HH2.out.stored 6 (.int .i64 (nO:Int)));have HRx:=zq (HR2.out.store HH2.out hg hB2 6 (.int .i64 (nO:Int)));have hBx:base<=(w2.setCell ⟨g,6,none⟩ (.int .i64 (nO:Int))).heap.size:=Nat.le_trans hB2 (qaU hg hB2 6 _).size;have HBx:=zq (HB2.out.trans (qbR HH2.out hg hB2 6 (.int .i64 (nO:Int))));rw[hloO]at hM;subst hM;clear h7 HH2 HR2 HB2 he1;have hro:=HRx.out.beside hBx (.cells #[.int .i64 n1,.int .i64 (k:Int)] 185);have HRB:=zq hro;have HHB:=zq (HHx.out.beside (.cells #[.int .i64 n1,.int .i64 (k:Int)] 185));have hBB:base<=((w2.setCell ⟨g,6,none⟩ (.int .i64 (nO:Int))).alloc (.cells #[.int .i64 n1,.int .i64 (k:Int)] 185)).heap.size:=by simp;omega
   have HBB:=zq (HBx.out.alloc hBx (.cells #[.int .i64 n1,.int .i64 (k:Int)] 185));have HOO:Hid (((w2.setCell ⟨g,6,none⟩ (.int .i64 (nO:Int))).alloc (.cells #[.int .i64 n1,.int .i64 (k:Int)] 185)).ownsRow base 185 2 (.slice AO nO cO) nO (pairs s1.out)):=zq hro.o;have HNN:=zq (show([.int .i64 n1,.int .i64 (k:Int)]:List Value).length=1*2 from rfl);have hcc:=(qcb (w2.setCell ⟨g,6,none⟩ (.int .i64 (nO:Int))) #[.int .i64 n1,.int .i64 (k:Int)] 185 [.int .i64 n1,.int .i64 (k:Int)] rfl).out;have hsz:(w2.setCell ⟨g,6,none⟩ (.int .i64 (nO:Int))).heap.size=w2.heap.size:=by simp
   rw[hsz]at hcc;have HCC:=zq hcc;have HO1:Hid (∀u∈([.int .i64 n1,.int .i64 (k:Int)]:List Value),u.oneCell'=true):=by
    intro u hu;simp only[List.mem_cons,List.not_mem_nil,or_false]at hu
    rcases hu with rfl|rfl<;>rfl
   have HBD:Hid (nO+1<=maxLen/\(nO+1)*16<=140737488355328/\base<=((w2.setCell ⟨g,6,none⟩ (.int .i64 (nO:Int))).alloc (.cells #[.int .i64 n1,.int .i64 (k:Int)] 185)).heap.size):=⟨by unfold maxLen;omega,by omega,hBB⟩
   have q3:(w2.setCell ⟨g,6,none⟩ (.int .i64 (nO:Int))).cell? ⟨g,3,none⟩=some (.slice AO nO cO):=HHx.out.cell 3;clear hro hcc hsz;go_wp2_with (with_reducible refine qaZ (o:=⟨some 107,_,_,_,_,_⟩) rfl (.tmp 102) (.tmp 106) 106 rfl base 185 (.agg #[.int .i64 0,.int .i64 0]) 2 16 Tryz.underlying106 qcE ?hz7 (by decide) AO nO cO (pairs s1.out) ?hs7 HOO ⟨w2.heap.size,0,none⟩ 1 1 [.int .i64 n1,.int .i64 (k:Int)] ?hx7 HNN HCC HO1 HBD ?next7)
   all_goals try rfl
   intro A4 c4 w4 ho4 hg4;obtain⟨hr4,hb4⟩:=HRB.out.growO hBB n1 k A4 c4 ho4.out hg4.out;have HR4:=zq hr4;have HH4:=zq (HHB.out.grow hg4.out (Ne.symm (qa0 HOO.out HHB.out (by decide))));have HB4:=zq (HBB.out.trans hb4);have hB4:base<=w4.heap.size:=Nat.le_trans hBB hb4.size;have r3:w4.cell? ⟨g,3,none⟩=some (.slice AO nO cO):=HH4.out.cell 3;have z3:w4.frozen? ⟨g,3,none⟩=false:=HH4.out.thaw 3;clear hr4 hb4 ho4 hg4;go_wp2;go_ret
   have hr:=HR4.out.store HH4.out hg hB4 3 (.slice A4 (nO+1) c4);exact⟨rfl,⟨hg,AV,nV,cV,AB,nB,cB,A4,nO+1,c4,AG,nG,cG,HH4.out.stored 3 _,⟨hr.v,hr.b,hr.lo,hr.lg,hr.o,hr.g⟩⟩,HB4.out.trans (qbR HH4.out hg hB4 _ _)⟩
  ·rw[if_neg h7]at hM
   have h71:(v==7)=false:=by simp[h7]
   by_cases h5:v=5
   ·rw[if_pos h5]at hM
    subst hM;have h51:(v !=5)=false:=by simp[h5]
    have HHx:=HH2;have HRx:=HR2;have HBx:=HB2;have hBx:=hB2;clear h5 h7 he1;have hro:=HRx.out.beside hBx (.cells #[.int .i64 n1,.int .i64 (k:Int)] 185);have HRB:=zq hro;have HHB:=zq (HHx.out.beside (.cells #[.int .i64 n1,.int .i64 (k:Int)] 185));have hBB:base<=(w2.alloc (.cells #[.int .i64 n1,.int .i64 (k:Int)] 185)).heap.size:=by simp;omega
    have HBB:=zq (HBx.out.alloc hBx (.cells #[.int .i64 n1,.int .i64 (k:Int)] 185));have HOO:Hid ((w2.alloc (.cells #[.int .i64 n1,.int .i64 (k:Int)] 185)).ownsRow base 185 2 (.slice AO nO cO) nO (pairs s1.out)):=zq hro.o;have HNN:=zq (show([.int .i64 n1,.int .i64 (k:Int)]:List Value).length=1*2 from rfl);have hcc:=(qcb w2 #[.int .i64 n1,.int .i64 (k:Int)] 185 [.int .i64 n1,.int .i64 (k:Int)] rfl).out;have hsz:w2.heap.size=w2.heap.size:=by simp
    rw[hsz]at hcc;have HCC:=zq hcc;have HO1:Hid (∀u∈([.int .i64 n1,.int .i64 (k:Int)]:List Value),u.oneCell'=true):=by
     intro u hu;simp only[List.mem_cons,List.not_mem_nil,or_false]at hu
     rcases hu with rfl|rfl<;>rfl
    have HBD:Hid (nO+1<=maxLen/\(nO+1)*16<=140737488355328/\base<=(w2.alloc (.cells #[.int .i64 n1,.int .i64 (k:Int)] 185)).heap.size):=⟨by unfold maxLen;omega,by omega,hBB⟩
    have q3:w2.cell? ⟨g,3,none⟩=some (.slice AO nO cO):=HHx.out.cell 3;clear hro hcc hsz;go_wp2_with (with_reducible refine qaZ (o:=⟨some 107,_,_,_,_,_⟩) rfl (.tmp 102) (.tmp 106) 106 rfl base 185 (.agg #[.int .i64 0,.int .i64 0]) 2 16 Tryz.underlying106 qcE ?hz5 (by decide) AO nO cO (pairs s1.out) ?hs5 HOO ⟨w2.heap.size,0,none⟩ 1 1 [.int .i64 n1,.int .i64 (k:Int)] ?hx5 HNN HCC HO1 HBD ?next5)
    all_goals try rfl
    intro A4 c4 w4 ho4 hg4;obtain⟨hr4,hb4⟩:=HRB.out.growO hBB n1 k A4 c4 ho4.out hg4.out;have HR4:=zq hr4;have HH4:=zq (HHB.out.grow hg4.out (Ne.symm (qa0 HOO.out HHB.out (by decide))));have HB4:=zq (HBB.out.trans hb4);have hB4:base<=w4.heap.size:=Nat.le_trans hBB hb4.size;have r3:w4.cell? ⟨g,3,none⟩=some (.slice AO nO cO):=HH4.out.cell 3;have z3:w4.frozen? ⟨g,3,none⟩=false:=HH4.out.thaw 3;clear hr4 hb4 ho4 hg4;go_wp2;go_ret
    have hr:=HR4.out.store HH4.out hg hB4 3 (.slice A4 (nO+1) c4);exact⟨rfl,⟨hg,AV,nV,cV,AB,nB,cB,A4,nO+1,c4,AG,nG,cG,HH4.out.stored 3 _,⟨hr.v,hr.b,hr.lo,hr.lg,hr.o,hr.g⟩⟩,HB4.out.trans (qbR HH4.out hg hB4 _ _)⟩
   ·rw[if_neg h5]at hM
    subst hM;have h51:(v !=5)=true:=by simp[h5]
    have p4:w2.cell? ⟨g,4,none⟩=some (.slice AG nG cG):=HH2.out.cell 4;have hro:=HR2.out.beside hB2 (.cells #[.int .i64 n1] 3);have HRA:=zq hro;have HHA:=zq (HH2.out.beside (.cells #[.int .i64 n1] 3));have hBA:base<=(w2.alloc (.cells #[.int .i64 n1] 3)).heap.size:=by simp;omega
    have HBA:=zq (HB2.out.alloc hB2 (.cells #[.int .i64 n1] 3));have HOG:Hid ((w2.alloc (.cells #[.int .i64 n1] 3)).ownsRow base 3 1 (.slice AG nG cG) nG (ints s1.got)):=zq hro.g;have HNG:=zq (show([.int .i64 n1]:List Value).length=1*1 from rfl);have HCG:=qcb w2 #[.int .i64 n1] 3 [.int .i64 n1] rfl;have HG1:Hid (∀u∈([.int .i64 n1]:List Value),u.oneCell'=true):=by
     intro u hu;simp only[List.mem_singleton]at hu;subst hu
     rfl
    have HGD:Hid (nG+1<=maxLen/\(nG+1)*8<=140737488355328/\base<=(w2.alloc (.cells #[.int .i64 n1] 3)).heap.size):=⟨by unfold maxLen;omega,by omega,hBA⟩
    clear hro h5 h7 he1;go_wp2_with (with_reducible refine qaZ (o:=⟨some 95,_,_,_,_,_⟩) rfl (.tmp 92) (.tmp 94) 22 rfl base 3 (.int .i64 0) 1 8 Tryz.underlying22 info_int ?hza (by decide) AG nG cG (ints s1.got) ?hsa HOG ⟨w2.heap.size,0,none⟩ 1 1 [.int .i64 n1] ?hxa HNG HCG HG1 HGD ?nexta)
    all_goals try rfl
    case nexta=>
     intro AGx cGx w3 ho3 hg3;obtain⟨hr3,hb3⟩:=HRA.out.growG hBA n1 AGx cGx ho3.out hg3.out;have HR3:=zq hr3;have HH3:=zq (HHA.out.grow hg3.out (Ne.symm (qa0 HOG.out HHA.out (by decide))));have HB3:=zq (HBA.out.trans hb3);have hB3:base<=w3.heap.size:=Nat.le_trans hBA hb3.size;have r4:w3.cell? ⟨g,4,none⟩=some (.slice AG nG cG):=HH3.out.cell 4;have z4:w3.frozen? ⟨g,4,none⟩=false:=HH3.out.thaw 4;clear hr3 hb3 ho3 hg3 p4 HH2 HR2 HB2 HOG HCG HRA HHA HBA;have HHx:Hid (Has (w3.setCell ⟨g,4,none⟩ (.slice AGx (nG+1) cGx)) g 188 (wkCells {s1 with got:=s1.got++[n1]} AV nV cV AB nB cB AO nO cO AGx (nG+1) cGx)):=zq (HH3.out.stored 4 _);have HRx:=zq (HR3.out.store HH3.out hg hB3 4 (.slice AGx (nG+1) cGx));have hBx:base<=(w3.setCell ⟨g,4,none⟩ (.slice AGx (nG+1) cGx)).heap.size:=Nat.le_trans hB3 (qaU hg hB3 4 _).size;have HBx:=zq (HB3.out.trans (qbR HH3.out hg hB3 4 (.slice AGx (nG+1) cGx)));have hro:=HRx.out.beside hBx (.cells #[.int .i64 n1,.int .i64 (k:Int)] 185);have HRB:=zq hro;have HHB:=zq (HHx.out.beside (.cells #[.int .i64 n1,.int .i64 (k:Int)] 185));have hBB:base<=((w3.setCell ⟨g,4,none⟩ (.slice AGx (nG+1) cGx)).alloc (.cells #[.int .i64 n1,.int .i64 (k:Int)] 185)).heap.size:=by simp;omega
     have HBB:=zq (HBx.out.alloc hBx (.cells #[.int .i64 n1,.int .i64 (k:Int)] 185));have HOO:Hid (((w3.setCell ⟨g,4,none⟩ (.slice AGx (nG+1) cGx)).alloc (.cells #[.int .i64 n1,.int .i64 (k:Int)] 185)).ownsRow base 185 2 (.slice AO nO cO) nO (pairs s1.out)):=zq hro.o;have HNN:=zq (show([.int .i64 n1,.int .i64 (k:Int)]:List Value).length=1*2 from rfl);have hcc:=(qcb (w3.setCell ⟨g,4,none⟩ (.slice AGx (nG+1) cGx)) #[.int .i64 n1,.int .i64 (k:Int)] 185 [.int .i64 n1,.int .i64 (k:Int)] rfl).out;have hsz:(w3.setCell ⟨g,4,none⟩ (.slice AGx (nG+1) cGx)).heap.size=w3.heap.size:=by simp
     rw[hsz]at hcc;have HCC:=zq hcc;have HO1:Hid (∀u∈([.int .i64 n1,.int .i64 (k:Int)]:List Value),u.oneCell'=true):=by
      intro u hu;simp only[List.mem_cons,List.not_mem_nil,or_false]at hu
      rcases hu with rfl|rfl<;>rfl
     have HBD:Hid (nO+1<=maxLen/\(nO+1)*16<=140737488355328/\base<=((w3.setCell ⟨g,4,none⟩ (.slice AGx (nG+1) cGx)).alloc (.cells #[.int .i64 n1,.int .i64 (k:Int)] 185)).heap.size):=⟨by unfold maxLen;omega,by omega,hBB⟩
     have q3:(w3.setCell ⟨g,4,none⟩ (.slice AGx (nG+1) cGx)).cell? ⟨g,3,none⟩=some (.slice AO nO cO):=HHx.out.cell 3;clear hro hcc hsz;go_wp2_with (with_reducible refine qaZ (o:=⟨some 107,_,_,_,_,_⟩) rfl (.tmp 102) (.tmp 106) 106 rfl base 185 (.agg #[.int .i64 0,.int .i64 0]) 2 16 Tryz.underlying106 qcE ?hzg (by decide) AO nO cO (pairs s1.out) ?hsg HOO ⟨w3.heap.size,0,none⟩ 1 1 [.int .i64 n1,.int .i64 (k:Int)] ?hxg HNN HCC HO1 HBD ?nextg)
     all_goals try rfl
     case nextg=>
      intro A4 c4 w4 ho4 hg4;obtain⟨hr4,hb4⟩:=HRB.out.growO hBB n1 k A4 c4 ho4.out hg4.out;have HR4:=zq hr4;have HH4:=zq (HHB.out.grow hg4.out (Ne.symm (qa0 HOO.out HHB.out (by decide))));have HB4:=zq (HBB.out.trans hb4);have hB4:base<=w4.heap.size:=Nat.le_trans hBB hb4.size;have r3:w4.cell? ⟨g,3,none⟩=some (.slice AO nO cO):=HH4.out.cell 3;have z3:w4.frozen? ⟨g,3,none⟩=false:=HH4.out.thaw 3;clear hr4 hb4 ho4 hg4;go_wp2;go_ret
      have hr:=HR4.out.store HH4.out hg hB4 3 (.slice A4 (nO+1) c4);exact⟨rfl,⟨hg,AV,nV,cV,AB,nB,cB,A4,nO+1,c4,AGx,nG+1,cGx,HH4.out.stored 3 _,⟨hr.v,hr.b,hr.lo,hr.lg,hr.o,hr.g⟩⟩,HB4.out.trans (qbR HH4.out hg hB4 _ _)⟩
end
section
open Go.RowKit
structure PkE where
 id:Int
 A:Option Addr
 n:Nat
 c:Nat
 V:List Int
def qdk (l:List PkE):List Value:=l.flatMap fun p=>[.int .i64 p.id,.slice p.A p.n p.c]
def qaM (l:List PkE):List (Int×List Int):=l.map fun p=>(p.id,p.V)
theorem qdH (l:List PkE):(qdk l).length=l.length*2:=by
 induction l with
 |nil=>rfl
 |cons p l ih=>rw[show qdk (p::l)=[.int .i64 p.id,.slice p.A p.n p.c]++qdk l from rfl,List.length_append,ih,List.length_cons,List.length_cons,List.length_cons,List.length_nil];omega
theorem qeC: ∀(l:List PkE) (j:Nat) (h:j<l.length),(qdk l)[j*2]?=some (.int .i64 l[j].id)/\(qdk l)[j*2+1]?=some (.slice l[j].A l[j].n l[j].c)
 |p::l,0,_=>⟨rfl,rfl⟩
 |p::l,j+1,h=>by
  have:=qeC l j (by simpa using h);rw[show qdk (p::l)= .int .i64 p.id:: .slice p.A p.n p.c::qdk l from rfl,show(j+1)*2=j*2+1+1 by omega];exact this
structure SlK (w:World) (A:Option Addr) (m c:Nat) (l:List PkE):Prop where
 len:l.length=m
 cap:m<=c
 sl:Sl w 2 A m c (qdk l)
 each: ∀p∈l,SlI w.heap.size w p.A p.n p.c p.V
theorem sliUnder {w w':World}{A:Option Addr}{n c:Nat}{V:List Int}(h:SlI w.heap.size w A n c V)(hb:Below w.heap.size w w'):SlI w'.heap.size w' A n c V:=by
 have h2:=h.below hb;exact⟨h2.len,h2.cap,h2.sl,fun hc a ha=>Nat.lt_of_lt_of_le (h2.low hc a ha) hb.size⟩
theorem SlK.under {w w':World}{A:Option Addr}{m c:Nat}{l:List PkE}(h:SlK w A m c l)(hb:Below w.heap.size w w'):SlK w' A m c l:=
 ⟨h.len,h.cap,h.sl.under hb,fun p hp=>sliUnder (h.each p hp) hb⟩
theorem SlK.at_ {w:World}{A:Option Addr}{m c:Nat}{l:List PkE}(h:SlK w A m c l){j:Nat}(hj:j<l.length):
  ∃b off,A=some ⟨b,off,none⟩/\w.cell? ⟨b,off+j*2,none⟩=some (.int .i64 l[j].id)/\w.cell? ⟨b,off+j*2+1,none⟩=some (.slice l[j].A l[j].n l[j].c):=by
 obtain⟨h1,h2⟩:=qeC l j hj;obtain⟨b,off,hA,hc⟩:=h.sl.at_ h1;obtain⟨b',off',hA',hc'⟩:=h.sl.at_ h2;rw[hA]at hA';simp only[Option.some.injEq,Addr.mk.injEq,and_true]at hA';obtain⟨rfl,rfl⟩:=hA';exact⟨b,off,hA,hc,by rw[<-Nat.add_assoc]at hc';exact hc'⟩
end
end Go.Proofs.YtahadmeilajdgaaGreatDoor
