/-
  Our own text, joined.
-/
import Derived.Test.YtahadmeilajdgaaGreatDoorMtag
import Derived.Test.YtahadmeilajdgaaGreatDoorMtaa
import Derived.Test.YtahadmeilajdgaaGreatDoorMtab
import Derived.Test.YtahadmeilajdgaaGreatDoorMtac
import Derived.BigQuiet
import Derived.IntWalk
import Derived.Test.YtahadmeilajdgaaGreatDoorMtad
import Derived.Test.YtahadmeilajdgaaGreatDoorCards
import Derived.Test.YtahadmeilajdgaaGreatDoorTie
import Derived.WalkKit
import Derived.ProofKit
import Derived.OpenShut
import Derived.Deep.DeepHandedRow
import Derived.Lib.LaidTab
namespace Go.Proofs.YtahadmeilajdgaaGreatDoor
set_option maxRecDepth 100000
set_option maxHeartbeats 20000000
section
open Go.RowKit
theorem qcb (lo:Nat)(w:World)(t:TypeId)(vs:List Value)(n:Nat)(hn:n=vs.length)(hlo:lo<=w.heap.size):SlZ lo (w.alloc (.cells vs.toArray t)).heap.size (w.alloc (.cells vs.toArray t)) 1 (some ⟨w.heap.size,0,none⟩) n n vs:=by
 refine⟨⟨by omega,fun h=>(by cases h),fun ad ha j u hu=>?_⟩,fun a ha=>?_⟩
 ·cases ha
  rw[WideShapes.add_plain,(Has.made w t vs.toArray).cell,Nat.zero_add]
  simpa using hu
 ·cases ha
  simp;omega
theorem qdI (lo:Nat)(A:Option Addr)(n c:Nat)(vs:List Nat)(w:World)(hs:Sl w 1 A n c (nats vs))(hn:n<=100)(hlo:lo<=w.heap.size):
  Calls Tryz.prog 245 #[.slice A n c] w fun e w'=> ∃A' c',e= .returned (.slice A' n c')/\Parts lo w'.heap.size w' A' n c' (qae vs)/\Below w.heap.size w w':=by
 have hl:vs.length=n:=by have:=hs.1;simpa[nats]using this
 refine(plain_any A n c vs w hs (by omega)).mono ?_;rintro e w' ⟨A',c',rfl,ho,hb⟩;exact⟨A',c',rfl,Parts.lower ⟨by simp[qae,hl],own_cap ho,_,slz_own ho,plain_at _ _ _ vs⟩ hlo,hb⟩
theorem qaI (lo:Nat)(vs:List Nat)(w:World)(hn:vs.length<=100)(hlo:lo<=w.heap.size):
  Calls Tryz.prog 245 #[.slice (some ⟨w.heap.size,0,none⟩) vs.length vs.length] (w.alloc (.cells (nats vs).toArray 3)) fun e w'=> ∃A' c',e= .returned (.slice A' vs.length c')/\Parts lo w'.heap.size w' A' vs.length c' (qae vs)/\Below w.heap.size w w':=by
 refine(qdI lo _ vs.length _ vs _ (qcb lo w _ (nats vs) vs.length (by simp[nats]) hlo).sl hn (by simp;omega)).mono ?_;rintro e w' ⟨A',c',rfl,hp,hb⟩;exact⟨A',c',rfl,hp,((Below.refl _ w).alloc (Nat.le_refl _) _).trans (hb.mono (by simp))⟩
abbrev PlT:=Option Addr×Nat×Nat×List Pt
def pls (L:List PlT):List Value:=L.map fun x=> .slice x.1 x.2.1 x.2.2.1
def ptsOf (L:List PlT):List Pt:=L.flatMap fun x=>x.2.2.2
def numOf (L:List PlT):Nat:=(L.map fun x=>x.2.1).sum
theorem qfp {lo hi:Nat}{w:World}: ∀(L:List PlT),(∀x∈L,Parts lo hi w x.1 x.2.1 x.2.2.1 x.2.2.2/\x.2.1<=100)-> ∃K:List SlT,sls K=pls L/\cntOf K=numOf L/\PtsAt lo hi w (ptsOf L) (qc6 K)/\ ∀x∈K,Sl w 4 x.1 x.2.1 x.2.2.1 x.2.2.2/\(∀u∈x.2.2.2,u.oneCell'=true)/\x.2.1<=100
 |[],_=>⟨[],rfl,rfl,by show PtsAt lo hi w [] [];rw[PtsAt],fun x h=>by cases h⟩
 |y::L,h=>by
  obtain⟨K,h1,h2,h3,h4⟩:=qfp L (fun x hx=>h x (by simp[hx]));obtain⟨hp,hn⟩:=h y (by simp);obtain⟨cs,hz,ha⟩:=hp.mem;refine⟨(y.1,y.2.1,y.2.2.1,cs)::K,?_,?_,?_,?_⟩
  ·show _::sls K=_::pls L;rw[h1]
  ·have e1:cntOf ((y.1,y.2.1,y.2.2.1,cs)::K)=y.2.1+cntOf K:=by simp[cntOf]
   have e2:numOf (y::L)=y.2.1+numOf L:=by simp[numOf]
   rw[e1,e2,h2]
  ·exact qeR ha h3
  ·intro x hx
   rcases List.mem_cons.1 hx with rfl|hx
   ·exact⟨hz.sl,(qfF ha).2,hn⟩
   ·exact h4 x hx
theorem num_len {lo hi:Nat}{w:World}: ∀(L:List PlT),(∀x∈L,Parts lo hi w x.1 x.2.1 x.2.2.1 x.2.2.2/\x.2.1<=100)->(ptsOf L).length=numOf L
 |[],_=>rfl
 |y::L,h=>by
  have ih:=num_len L (fun x hx=>h x (by simp[hx]));have h1:=(h y (by simp)).1.len;have e1:ptsOf (y::L)=y.2.2.2++ptsOf L:=rfl;have e2:numOf (y::L)=y.2.1+numOf L:=by simp[numOf]
  rw[e1,e2,List.length_append,ih,h1]
theorem qc7 (lo:Nat)(A:Option Addr)(n c:Nat)(L:List PlT)(w:World)(hs:Sl w 1 A n c (pls L))(hn:n<=100)(hx: ∀x∈L,Parts lo w.heap.size w x.1 x.2.1 x.2.2.1 x.2.2.2/\x.2.1<=100)(hlo:lo<=w.heap.size):
  Calls Tryz.prog 244 #[.slice A n c] w fun e w'=> ∃A' c',e= .returned (.slice A' (numOf L) c')/\Parts lo w'.heap.size w' A' (numOf L) c' (ptsOf L)/\Below w.heap.size w w':=by
 obtain⟨K,h1,h2,h3,h4⟩:=qfp L hx;have hl:=num_len L hx;refine(concat_any A n c K w (by rw[h1];exact hs) hn h4).mono ?_;rintro e w' ⟨A',c',rfl,ho,hb⟩;rw[h2]at ho;refine⟨A',c',by rw[h2],⟨hl,own_cap ho,_,(slz_own ho).keep (fun _ _ _=>rfl) hlo (Nat.le_refl _),PtsAt.keep (qcO hb) (Nat.le_refl _) hb.size _ _ h3⟩,hb⟩
theorem concat_lit (lo:Nat)(L:List PlT)(w:World)(hn:L.length<=100)(hx: ∀x∈L,Parts lo w.heap.size w x.1 x.2.1 x.2.2.1 x.2.2.2/\x.2.1<=100)(hlo:lo<=w.heap.size):
  Calls Tryz.prog 244 #[.slice (some ⟨w.heap.size,0,none⟩) L.length L.length] (w.alloc (.cells (pls L).toArray 252)) fun e w'=> ∃A' c',e= .returned (.slice A' (numOf L) c')/\Parts lo w'.heap.size w' A' (numOf L) c' (ptsOf L)/\Below w.heap.size w w':=by
 refine(qc7 lo _ L.length _ L _ (qcb lo w _ (pls L) L.length (by simp[pls]) hlo).sl hn (fun x h=>⟨(hx x h).1.beside _,(hx x h).2⟩) (by simp;omega)).mono ?_;rintro e w' ⟨A',c',rfl,hp,hb⟩;exact⟨A',c',rfl,hp,((Below.refl _ w).alloc (Nat.le_refl _) _).trans (hb.mono (by simp))⟩
theorem qgv {lo:Nat}{w:World}{v k:Nat}{b:List Pt}{Ao:Option Addr}{co:Nat}{Af:Option Addr}{nf cf:Nat}(ho:SlZ lo w.heap.size w 1 Ao (qaN k).length co (nats (qaN k)))(hf:Parts lo w.heap.size w Af nf cf b)(hlo:lo<=w.heap.size):
  Parts lo (w.alloc (.cells #[.int .i64 (v:Int),.bool (decide (k=0)),.slice Ao (qaN k).length co,.slice Af nf cf] 284)).heap.size (w.alloc (.cells #[.int .i64 (v:Int),.bool (decide (k=0)),.slice Ao (qaN k).length co,.slice Af nf cf] 284)) (some ⟨w.heap.size,0,none⟩) 1 1 [.mk v k b]:=by
 have hz:Zone lo w.heap.size w (w.alloc (.cells #[.int .i64 (v:Int),.bool (decide (k=0)),.slice Ao (qaN k).length co,.slice Af nf cf] 284)):=qcO (bA);have hs:w.heap.size<=(w.alloc (.cells #[.int .i64 (v:Int),.bool (decide (k=0)),.slice Ao (qaN k).length co,.slice Af nf cf] 284)).heap.size:=by simp
 obtain⟨fc,f1,f2⟩:=hf.mem;refine⟨rfl,Nat.le_refl _,[.int .i64 (v:Int),.bool (decide (k=0)),.slice Ao (qaN k).length co,.slice Af nf cf],⟨⟨rfl,fun h=>(by cases h),fun ad ha j u hu=>?_⟩,fun a ha=>?_⟩,?_⟩
 ·cases ha
  rw[WideShapes.add_plain,(Has.made w 284 _).cell,Nat.zero_add]
  simpa using hu
 ·cases ha
  simp;omega
 ·rw[PtsAt]
  refine⟨_,[],(List.append_nil _).symm,?_,by rw[PtsAt]⟩;rw[PtAt];exact⟨Ao,co,Af,nf,cf,fc,rfl,ho.keep hz (Nat.le_refl _) hs,hf.len,hf.cap,f1.keep hz (Nat.le_refl _) hs,PtsAt.keep hz (Nat.le_refl _) hs _ _ f2⟩
theorem iter_parts (lo:Nat)(A:Option Addr)(n c:Nat)(L:List PlT)(w:World)(hs:Sl w 1 A n c (pls L))(hn:n<=100)(hx: ∀x∈L,Parts lo w.heap.size w x.1 x.2.1 x.2.2.1 x.2.2.2/\x.2.1<=100)(hlo:lo<=w.heap.size):
  Calls Tryz.prog 246 #[.slice A n c] w fun e w'=> ∃A' c',e= .returned (.slice A' 1 c')/\Parts lo w'.heap.size w' A' 1 c' [.mk 27 0 (ptsOf L)]/\Below w.heap.size w w':=by
 have HC:=zq (qc7 lo A n c L w hs hn hx hlo);clear hs hx;go_enter Tryz.func246,Tryz.ntmps246;go_wp2_with fail;refine HC.out.mono ?_;rintro e w1 ⟨A1,c1,rfl,hp1,hb1⟩;have hm:=qgv (v:=27) (k:=0) (slz_nil lo w1.heap.size w1 1) hp1 (Nat.le_trans hlo hb1.size);have HM:=zq hm;have HB:=zq (hb1.alloc hb1.size (.cells #[.int .i64 27,.bool true,.slice none 0 0,.slice A1 (numOf L) c1] 284));clear hp1 hb1 hm HC;go_wp2;go_ret
 exact⟨_,1,rfl,HM.out,HB.out⟩
theorem qcW (lo:Nat)(L:List PlT)(w:World)(hn:L.length<=100)(hx: ∀x∈L,Parts lo w.heap.size w x.1 x.2.1 x.2.2.1 x.2.2.2/\x.2.1<=100)(hlo:lo<=w.heap.size):
  Calls Tryz.prog 246 #[.slice (some ⟨w.heap.size,0,none⟩) L.length L.length] (w.alloc (.cells (pls L).toArray 252)) fun e w'=> ∃A' c',e= .returned (.slice A' 1 c')/\Parts lo w'.heap.size w' A' 1 c' [.mk 27 0 (ptsOf L)]/\Below w.heap.size w w':=by
 refine(iter_parts lo _ L.length _ L _ (qcb lo w _ (pls L) L.length (by simp[pls]) hlo).sl hn (fun x h=>⟨(hx x h).1.beside _,(hx x h).2⟩) (by simp;omega)).mono ?_;rintro e w' ⟨A',c',rfl,hp,hb⟩;exact⟨A',c',rfl,hp,((Below.refl _ w).alloc (Nat.le_refl _) _).trans (hb.mono (by simp))⟩
theorem qfk (lo v k:Nat)(Ao:Option Addr)(co:Nat)(A:Option Addr)(n c:Nat)(vs:List Nat)(w:World)(hk:k≠0)(ho:SlZ lo w.heap.size w 1 Ao (qaN k).length co (nats (qaN k)))(hs:Sl w 1 A n c (nats vs))(hn:n<=100)(hlo:lo<=w.heap.size):
  Calls Tryz.prog 261 #[.int .i64 (v:Int),.slice Ao (qaN k).length co,.slice A n c] w fun e w'=> ∃A' c',e= .returned (.slice A' 1 c')/\Parts lo w'.heap.size w' A' 1 c' [.mk v k (qae vs)]/\Below w.heap.size w w':=by
 have HC:=zq (qdI lo A n c vs w hs hn hlo);have HO:=zq ho;have HK:=zq hk;obtain⟨m,hm⟩:=geZ ((qaN k).length);rw[hm];have HM:=zq hm;clear hs ho hk hm;go_enter Tryz.func261,Tryz.ntmps261;go_wp2_with fail;refine HC.out.mono ?_;rintro e w1 ⟨A1,c1,rfl,hp1,hb1⟩;have hz:=HO.out.keep (qcO hb1) (Nat.le_refl _) hb1.size;have hm:=qgv (v:=v) (k:=k) hz hp1 (Nat.le_trans hlo hb1.size);rw[decide_eq_false HK.out,HM.out]at hm;have HM:=zq hm;have HB:=zq (hb1.alloc hb1.size (.cells #[.int .i64 (v:Int),.bool false,.slice Ao m co,.slice A1 n c1] 284));clear hp1 hb1 hm hz HC;go_wp2;go_ret
 exact⟨_,1,rfl,HM.out,HB.out⟩
theorem qcA (lo v:Nat)(vs:List Nat)(w:World)(hn:vs.length<=100)(hlo:lo<=w.heap.size):
  Calls Tryz.prog 248 #[.int .i64 (v:Int),.slice (some ⟨w.heap.size,0,none⟩) vs.length vs.length] (w.alloc (.cells (nats vs).toArray 3)) fun e w'=> ∃A' c',e= .returned (.slice A' 1 c')/\Parts lo w'.heap.size w' A' 1 c' [.mk v 1 (qae vs)]/\Below w.heap.size w w':=by
 have h1:=qcb lo w 3 (nats vs) vs.length (by simp[nats]) hlo;have hb:Below w.heap.size w (w.alloc (.cells (nats vs).toArray 3)):=(Below.refl _ w).alloc (Nat.le_refl _) _;have hlo1:lo<=(w.alloc (.cells (nats vs).toArray 3)).heap.size:=Nat.le_trans hlo hb.size;generalize w.alloc (.cells (nats vs).toArray 3)=w1 at*;have h2:=qcb lo w1 3 [.int .i64 1] 1 rfl hlo1;have hb2:=hb.alloc hb.size (.cells #[.int .i64 1] 3);have h3:Sl (w1.alloc (.cells #[.int .i64 1] 3)) 1 (some ⟨w.heap.size,0,none⟩) vs.length vs.length (nats vs):=h1.sl.under (bA);have HC:=zq (qfk lo v 1 (some ⟨w1.heap.size,0,none⟩) 1 _ vs.length vs.length vs (w1.alloc (.cells #[.int .i64 1] 3)) (by decide) h2 h3 hn (by simp;omega));have HB:=zq hb2;clear h1 h2 h3 hb hb2;go_enter Tryz.func248,Tryz.ntmps248;go_wp2_with fail;refine HC.out.mono ?_;rintro e w2 ⟨A1,c1,rfl,hp1,hb1⟩;have HP:=zq hp1;have HB2:=tB HB hb1;clear hp1 hb1 HC;go_wp2;go_ret
 exact⟨A1,c1,rfl,HP.out,HB2.out⟩
end
section
open Go.RowKit
theorem may_var (v n:Int)(w:World)(hw:Wd w):
  Calls Tryz.prog 250 #[.int .i64 v,.int .i64 n] w fun e w'=>e= .returned (.bool (mayOf v n))/\w=w':=by
 by_cases h:0<=v/\v<96
 ·by_cases hn:0<=n
  ·have hm:mayOf v n=(decide (n<=qbu v)||(decide (qbv v≠0) &&decide (qbv v<=n) &&decide (n<=qbe v))):=by simp[mayOf,h,hn]
   rw[hm];clear hm;have c1:=most_any v w hw;have c2:=qeJ v w hw;have c3:=special_any v w;generalize qbu v=M at*;generalize qbe v=G at*;generalize qbv v=S at*;obtain⟨h0,h1⟩:=h;have C1:=zq c1;have C2:=zq c2;have C3:=zq c3;clear c1 c2 c3 hw;by_cases hM:n<=M
   ·rw[decide_eq_true hM,Bool.true_or]
    go_enter Tryz.func250,Tryz.ntmps250;go_wp2_with fail;refine(qcy v h0 h1 w).mono ?_;rintro e w' ⟨rfl,rfl⟩;go_wp2_with fail;refine C3.out.mono ?_;rintro e w' ⟨rfl,rfl⟩;go_wp2_with fail;refine C1.out.mono ?_;rintro e w' ⟨rfl,rfl⟩;go_wp2;go_ret
    exact⟨rfl,rfl⟩
   ·rw[decide_eq_false hM,Bool.false_or]
    by_cases hS:S≠0/\S<=n
    ·have e1:(decide (S≠0) &&decide (S<=n) &&decide (n<=G))=decide (n<=G):=by simp[hS]
     rw[e1];clear e1;obtain⟨hS0,hSn⟩:=hS;have hS1:(S !=0)=true:=by simp[hS0]
     obtain⟨b,hb⟩:=geZ (decide (n<=G));rw[hb];go_enter Tryz.func250,Tryz.ntmps250;go_wp2_with fail;refine(qcy v h0 h1 w).mono ?_;rintro e w' ⟨rfl,rfl⟩;go_wp2_with fail;refine C3.out.mono ?_;rintro e w' ⟨rfl,rfl⟩;go_wp2_with fail;refine C1.out.mono ?_;rintro e w' ⟨rfl,rfl⟩;go_wp2_with fail;refine C2.out.mono ?_;rintro e w' ⟨rfl,rfl⟩
     cases b
     ·have hG: ¬n<=G:=of_decide_eq_false hb
      go_wp2;go_ret
      exact⟨by show Ending.returned (.bool (decide (n<=M)))=_;rw[decide_eq_false (by omega)],rfl⟩
     ·have hG:n<=G:=of_decide_eq_true hb
      go_wp2;go_ret
      exact⟨rfl,rfl⟩
    ·have e1:(decide (S≠0) &&decide (S<=n) &&decide (n<=G))=false:=by
      by_cases h2:S=0
      ·simp[h2]
      ·have: ¬S<=n:=fun h3=>hS ⟨h2,h3⟩
       simp[this]
     rw[e1];clear e1;have HS:=zq hS;clear hS;go_enter Tryz.func250,Tryz.ntmps250;go_wp2_with fail;refine(qcy v h0 h1 w).mono ?_;rintro e w' ⟨rfl,rfl⟩;go_wp2_with fail;refine C3.out.mono ?_;rintro e w' ⟨rfl,rfl⟩;go_wp2_with fail;refine C1.out.mono ?_;rintro e w' ⟨rfl,rfl⟩;by_cases h2:S=0
     ·have hS1:(S !=0)=false:=by simp[h2]
      clear HS;go_wp2;go_ret
      exact⟨by show Ending.returned (.bool (decide (n<=M)))=_;rw[decide_eq_false (by omega)],rfl⟩
     ·have hS1:(S !=0)=true:=by simp[h2]
      have hS2: ¬S<=n:=fun h3=>HS.out ⟨h2,h3⟩;clear HS;go_wp2;go_ret
      exact⟨by show Ending.returned (.bool (decide (n<=M)))=_;rw[decide_eq_false (by omega)],rfl⟩
  ·have hm:mayOf v n=false:=by simp[mayOf,hn]
   rw[hm];clear hm hw;obtain⟨h0,h1⟩:=h;go_enter Tryz.func250,Tryz.ntmps250;go_wp2_with fail;refine(qcy v h0 h1 w).mono ?_;rintro e w' ⟨rfl,rfl⟩;go_wp2;go_ret
   exact⟨rfl,rfl⟩
 ·have hm:mayOf v n=false:=by simp[mayOf,h]
  rw[hm];have H:=zq h;clear hm hw h;go_enter Tryz.func250,Tryz.ntmps250;go_wp2_with fail;refine(exists_no v H.out w).mono ?_;rintro e w' ⟨rfl,rfl⟩;go_wp2;go_ret
  exact⟨rfl,rfl⟩
end
section
open Go.RowKit
open Go.Great
def lineT:Tp3:=⟨[100,200,300],[⟨(0,1),(1,0)⟩,⟨(1,1),(2,0)⟩],[⟨7,0,10⟩,⟨8,1,20⟩,⟨9,2,30⟩],[⟨1,[⟨0,false⟩,⟨1,false⟩],0,30⟩,⟨2,[⟨1,false⟩,⟨2,false⟩],50,20⟩]⟩
theorem qdu:qaH lineT=true:=by decide+kernel
theorem line_any (w:World):
  Calls Tryz.prog 38 #[] w fun e w'=> ∃a:TpA,e= .returned (.agg (tpC lineT a))/\TopR w' lineT a/\lineT.joints.length<=a.cj/\Below w.heap.size w w':=by
 obtain⟨wa,hwa⟩:=geZ (((((((w.alloc (.cells #[.slice none 0 0,.slice none 0 0,.slice none 0 0,.slice none 0 0] 27)).alloc (.cells #[.int .i64 100,.int .i64 200,.int .i64 300] 3)).alloc (.cells #[.int .i64 0,.int .i64 1,.int .i64 1,.int .i64 0,.int .i64 1,.int .i64 1,.int .i64 2,.int .i64 0] 149)).alloc (.cells #[.int .i64 7,.int .i64 0,.int .i64 10,.int .i64 8,.int .i64 1,.int .i64 20,.int .i64 9,.int .i64 2,.int .i64 30] 151)).alloc (.cells #[.int .i64 0,.bool false,.int .i64 1,.bool false] 30)).alloc (.cells #[.int .i64 1,.bool false,.int .i64 2,.bool false] 30)).alloc (.cells #[.int .i64 1,.slice (some ⟨w.heap.size+1+1+1+1,0,none⟩) 2 2,.int .i64 0,.int .i64 30,.int .i64 2,.slice (some ⟨w.heap.size+1+1+1+1+1,0,none⟩) 2 2,.int .i64 50,.int .i64 20] 75));have hbwa:Below w.heap.size w wa:=by rw[<-hwa];exact((((((bA).alloc (by simp) _).alloc (by simp;omega) _).alloc (by simp;omega) _).alloc (by simp;omega) _).alloc (by simp;omega) _).alloc (by simp;omega) _
 have h0:Has wa (w.heap.size) 27 #[.slice none 0 0,.slice none 0 0,.slice none 0 0,.slice none 0 0]:=by rw[<-hwa];exact(((((((Has.made _ _ _).beside _).beside _).beside _).beside _).beside _).beside _)
 have h1:Has wa (w.heap.size+1) 3 #[.int .i64 100,.int .i64 200,.int .i64 300]:=by rw[<-hwa];exact((((((qbz (by simp)).beside _).beside _).beside _).beside _).beside _)
 have h2:Has wa (w.heap.size+1+1) 149 #[.int .i64 0,.int .i64 1,.int .i64 1,.int .i64 0,.int .i64 1,.int .i64 1,.int .i64 2,.int .i64 0]:=by rw[<-hwa];exact(((((qbz (by simp)).beside _).beside _).beside _).beside _)
 have h3:Has wa (w.heap.size+1+1+1) 151 #[.int .i64 7,.int .i64 0,.int .i64 10,.int .i64 8,.int .i64 1,.int .i64 20,.int .i64 9,.int .i64 2,.int .i64 30]:=by rw[<-hwa];exact((((qbz (by simp)).beside _).beside _).beside _)
 have h4:Has wa (w.heap.size+1+1+1+1) 30 #[.int .i64 0,.bool false,.int .i64 1,.bool false]:=by rw[<-hwa];exact(((qbz (by simp)).beside _).beside _)
 have h5:Has wa (w.heap.size+1+1+1+1+1) 30 #[.int .i64 1,.bool false,.int .i64 2,.bool false]:=by rw[<-hwa];exact((qbz (by simp)).beside _)
 have h6:Has wa (w.heap.size+1+1+1+1+1+1) 75 #[.int .i64 1,.slice (some ⟨w.heap.size+1+1+1+1,0,none⟩) 2 2,.int .i64 0,.int .i64 30,.int .i64 2,.slice (some ⟨w.heap.size+1+1+1+1+1,0,none⟩) 2 2,.int .i64 50,.int .i64 20]:=by rw[<-hwa];exact(qbz (by simp))
 have HWA:=zq hwa;have HBWA:=zq hbwa;have HR:=zq (qaa h0 #[.slice (some ⟨w.heap.size+1,0,none⟩) 3 3,.slice (some ⟨w.heap.size+1+1,0,none⟩) 2 2,.slice (some ⟨w.heap.size+1+1+1,0,none⟩) 3 3,.slice (some ⟨w.heap.size+1+1+1+1+1+1,0,none⟩) 2 2]);have HBF:=zq (qab (g:=w.heap.size) hbwa (Nat.le_refl _) #[.slice (some ⟨w.heap.size+1,0,none⟩) 3 3,.slice (some ⟨w.heap.size+1+1,0,none⟩) 2 2,.slice (some ⟨w.heap.size+1+1+1,0,none⟩) 3 3,.slice (some ⟨w.heap.size+1+1+1+1+1+1,0,none⟩) 2 2]);have k1:=qad (g:=w.heap.size) h1 (by omega) #[.slice (some ⟨w.heap.size+1,0,none⟩) 3 3,.slice (some ⟨w.heap.size+1+1,0,none⟩) 2 2,.slice (some ⟨w.heap.size+1+1+1,0,none⟩) 3 3,.slice (some ⟨w.heap.size+1+1+1+1+1+1,0,none⟩) 2 2];have k2:=qad (g:=w.heap.size) h2 (by omega) #[.slice (some ⟨w.heap.size+1,0,none⟩) 3 3,.slice (some ⟨w.heap.size+1+1,0,none⟩) 2 2,.slice (some ⟨w.heap.size+1+1+1,0,none⟩) 3 3,.slice (some ⟨w.heap.size+1+1+1+1+1+1,0,none⟩) 2 2];have k3:=qad (g:=w.heap.size) h3 (by omega) #[.slice (some ⟨w.heap.size+1,0,none⟩) 3 3,.slice (some ⟨w.heap.size+1+1,0,none⟩) 2 2,.slice (some ⟨w.heap.size+1+1+1,0,none⟩) 3 3,.slice (some ⟨w.heap.size+1+1+1+1+1+1,0,none⟩) 2 2];have k4:=qad (g:=w.heap.size) h4 (by omega) #[.slice (some ⟨w.heap.size+1,0,none⟩) 3 3,.slice (some ⟨w.heap.size+1+1,0,none⟩) 2 2,.slice (some ⟨w.heap.size+1+1+1,0,none⟩) 3 3,.slice (some ⟨w.heap.size+1+1+1+1+1+1,0,none⟩) 2 2];have k5:=qad (g:=w.heap.size) h5 (by omega) #[.slice (some ⟨w.heap.size+1,0,none⟩) 3 3,.slice (some ⟨w.heap.size+1+1,0,none⟩) 2 2,.slice (some ⟨w.heap.size+1+1+1,0,none⟩) 3 3,.slice (some ⟨w.heap.size+1+1+1+1+1+1,0,none⟩) 2 2];have k6:=qad (g:=w.heap.size) h6 (by omega) #[.slice (some ⟨w.heap.size+1,0,none⟩) 3 3,.slice (some ⟨w.heap.size+1+1,0,none⟩) 2 2,.slice (some ⟨w.heap.size+1+1+1,0,none⟩) 3 3,.slice (some ⟨w.heap.size+1+1+1+1+1+1,0,none⟩) 2 2];obtain⟨wz,hwz⟩:=geZ (wa.setRow w.heap.size #[.slice (some ⟨w.heap.size+1,0,none⟩) 3 3,.slice (some ⟨w.heap.size+1+1,0,none⟩) 2 2,.slice (some ⟨w.heap.size+1+1+1,0,none⟩) 3 3,.slice (some ⟨w.heap.size+1+1+1+1+1+1,0,none⟩) 2 2]);rw[hwz]at HR HBF k1 k2 k3 k4 k5 k6;have HT:Hid (TopR wz lineT ⟨some ⟨w.heap.size+1,0,none⟩,3,some ⟨w.heap.size+1+1,0,none⟩,2,some ⟨w.heap.size+1+1+1,0,none⟩,3,some ⟨w.heap.size+1+1+1+1+1+1,0,none⟩,2⟩):=zq ⟨⟨rfl,qa7 k1 rfl⟩,⟨rfl,qa7 k2 rfl⟩,⟨rfl,qa7 k3 rfl⟩,⟨[(⟨1,[⟨0,false⟩,⟨1,false⟩],0,30⟩,.slice (some ⟨w.heap.size+1+1+1+1,0,none⟩) 2 2),(⟨2,[⟨1,false⟩,⟨2,false⟩],50,20⟩,.slice (some ⟨w.heap.size+1+1+1+1+1,0,none⟩) 2 2)],rfl,⟨rfl,qa7 k6 rfl⟩,fun p hp=>by
  simp only[List.mem_cons,List.not_mem_nil,or_false]at hp
  rcases hp with rfl|rfl
  ·exact⟨⟨some ⟨w.heap.size+1+1+1+1,0,none⟩,2,rfl,rfl,qa7 k4 rfl⟩,fun A n c e=>by cases e;exact Nat.le_refl _⟩
  ·exact⟨⟨some ⟨w.heap.size+1+1+1+1+1,0,none⟩,2,rfl,rfl,qa7 k5 rfl⟩,fun A n c e=>by cases e;exact Nat.le_refl _⟩⟩⟩
 have HZ:=zq h0;have HWZ:=zq hwz;clear hwz hwa hbwa h0 h1 h2 h3 h4 h5 h6 k1 k2 k3 k4 k5 k6;go_enter Tryz.func38,Tryz.ntmps38;go_upto_region 1 with fail;go_wp2_with (first|(rw[HWA.out];with_reducible refine stZ #[.slice (some ⟨w.heap.size+1,0,none⟩) 3 3,.slice (some ⟨w.heap.size+1+1,0,none⟩) 2 2,.slice (some ⟨w.heap.size+1+1+1,0,none⟩) 3 3,.slice (some ⟨w.heap.size+1+1+1+1+1+1,0,none⟩) 2 2] HZ.out ?_));rw[HWZ.out];refine roZ HR.out ?_;exact⟨_,rfl,HT.out,Nat.le_refl _,HBF.out⟩
end
section
open Go.RowKit
open Go.Great
theorem rstretch17 (t:Tp3)(a:TpA)(p:Ps3)(n:Int)(w:World)(ht:TopR w t a)(hl:qaH t=true)(hcj:t.joints.length<=a.cj):Calls Tryz.prog 21 #[.agg (tpC t a),.agg (psA p),.int .i64 n] w fun r w'=> ∃X x,r= .returned (.tuple #[.slice X (qaM t p n).1.length x,.int .i64 (qaM t p n).2])/\SlO snC 3 w' X (qaM t p n).1.length x (qaM t p n).1/\(qaM t p n).1.length<=x/\Below w.heap.size w w':=by
 obtain⟨wa,hwa,hbwa,HWA,HBWA,h0,h1⟩:=bx2Z w 27 (tpC t a) 51 (psA p);have HT:=zq (ht.under hbwa);have HCJ:=zq hcj;have H0:=zq h0;have H1:=zq h1;have HB:=HBWA;have HLT:=zq hl;have HNN:=zq (qax hl);obtain⟨px,ex,hw⟩: ∃x e,walkE t p n=(x,e):=⟨_,_,rfl⟩
 have HW:=zq hw;clear hwa hbwa h0 h1 ht hcj hl hw HBWA;go_enter Tryz.func21,Tryz.ntmps21;go_upto_region 1 with fail;rw[HWA.out];clear HWA;go_wp2_with (first|(with_reducible refine ldZ 12 H0.out ?_)|(with_reducible refine ldZ 13 H1.out ?_));refine(rwalk_any t a p n wa HT.out HLT.out HCJ.out).mono ?_;rw[HW.out];dsimp only;rintro e_ v1 ⟨rfl,hb⟩;have HB:=tB HB hb;have H0:=uH H0 hb;have H1:=uH H1 hb;have HT:=zq (HT.out.under hb);clear hb;have hm:Has (v1.alloc (.cells #[.int .i64 0,.int .i64 0,.bool false] 51)) v1.heap.size 51 #[.int .i64 0,.int .i64 0,.bool false]:=Has.made _ _ _;have HMM:=zq hm;obtain⟨u1,hu1⟩: ∃u_,(v1.alloc (.cells #[.int .i64 0,.int .i64 0,.bool false] 51)).setRow v1.heap.size (psA px)=u_:=⟨_,rfl⟩
 have hbu1:Below v1.heap.size v1 u1:=by rw[<-hu1];exact qab (g:=v1.heap.size) (bA) (Nat.le_refl _) _
 have HX1:=zq (show Has u1 v1.heap.size 51 (psA px)from by rw[<-hu1];exact qaa hm _);have HUU:=zq hu1;clear hm hu1;go_upto_region 2 with(with_reducible refine stZ (psA px) HMM.out ?_)
 rw[HUU.out];clear HUU HMM;obtain⟨g1,hg1⟩: ∃g_,v1.heap.size=g_:=⟨_,rfl⟩
 rw[hg1]at HX1;simp only[hg1];clear hg1;have HB:=tB HB hbu1;have H0:=uH H0 hbu1;have H1:=uH H1 hbu1;have HT:=zq (HT.out.under hbu1);clear hbu1;clear HX1;by_cases z0:ex=0;rotate_left
 ·have q0:(ex !=0)=true:=by simp[z0]
  have HR:=zq (show qaM t p n=([],ex)from by unfold qaM;rw[HW.out];exact if_neg z0);clear z0;go_wp2;go_ret2
  rw[HR.out];exact⟨none,0,rfl,SlO.nil _ _ _,Nat.le_refl _,HB.out⟩
 subst z0;have HGK:=zq (gone_ok HW.out);have HCT:=zq (qaD HGK.out.1).1;have HON:=zq (qaO.1 HGK.out.2.1).2;have HR:=zq (show qaM t p n=overE t (goneL t p n) (intoP t p) (intoP t p+n)from by unfold qaM;rw[HW.out];exact if_pos rfl);have q0:((0:Int) !=0)=false:=rfl;have hed:=(qbh.1 HON.out).1;have hat:=(qbh.1 HON.out).2;have HLB:=zq (show qat t p.edge<=1000000 from by have h_:=qaT HCT.out (s:=⟨p.edge,p.rev⟩) hed;unfold lenAt at h_;exact h_.2);obtain⟨I,hI⟩:=geZ (intoP t p);have hie:I=if p.rev=true then qat t p.edge-p.at_ else p.at_:=by rw[<-hI];unfold intoP qaB lenAt stepP qat;dsimp only;split<;>omega
 have HIB:=zq (show 0<=I/\I<=1000000 from by rw[hie];have:=HLB.out;split<;>omega);rw[hI]at HR;obtain⟨J,hJ⟩:=geZ (I+n);have hw1:IntKind.i64.wrap (I+n)=J:=by rw[IntKind.wrap_i64];have h1_:=HIB.out;have h2_:=HGK.out.2.2.1;have h3_:=HGK.out.2.2.2.1;omega
 rw[hJ]at HR;have HJW:=zq hw1;clear hI hw1 hJ;obtain⟨pe,pa,pr⟩:=p;dsimp only at hed hat hie HLB;have hed2:0<=pe/\pe<t.edges.length:=by have h_:=hed;unfold edgeB at h_;simpa using h_
 obtain⟨e,rfl⟩: ∃e:Nat,pe=e:=⟨pe.toNat,by omega⟩
 have hel:e<t.edges.length:=by omega
 cases pr with
 |false=>
  obtain rfl:I=pa:=by simpa using hie
  have p1:u1.cell? ⟨w.heap.size+1,1,none⟩=some (.int .i64 I):=H1.out.cell 1;have p2:u1.cell? ⟨w.heap.size+1,2,none⟩=some (.bool false):=H1.out.cell 2;clear hed hat hie hed2 hel;go_upto_region 4 with fail;clear q0;go_upto_region 7 with fail;clear p1 p2;have hw1:=HJW.out;refine wp_region_held_drew (S:=(fun W_=>(Has W_ (w.heap.size) 27 (tpC t a))/\(Has W_ (w.heap.size+1) 51 (psA ⟨(e:Int),I,false⟩))/\(Below u1.heap.size u1 W_))) (by kernel_rfl) ?_ (fun hHeld=>?_)
  ·exact⟨H0.out.draw,H1.out.draw,qaf (Below.refl _ _)⟩
  refine tlZ 0 34 w.heap.size (tpC t a) (fun _ ⟨h_,_,_⟩=>h_) (h:=?_);simp only[lyZ];refine tlZ 1 35 w.heap.size (tpC t a) (fun _ ⟨h_,_,_⟩=>h_) (h:=?_);simp only[lyZ];refine tlZ 2 36 (w.heap.size+1) (psA ⟨(e:Int),I,false⟩) (fun _ ⟨_,h_,_⟩=>h_) (h:=?_);simp only[lyZ];refine tkZ 3 37 (h:=?_);simp only[lyZ];refine tkZ 5 39 (h:=?_);simp only[lyZ];refine tkZ 6 40 (h:=?_);simp only[lyZ];refine tkZ 7 41 (h:=?_);simp only[lyZ];refine tkZ 8 42 (h:=?_);simp only[lyZ];refine aoZ 4 (some 38) (fun K hK=>?_);go_simp;obtain⟨s0,s1,s2⟩:=hHeld;refine(rgone17 t a (⟨(e:Int),I,false⟩) n _ (HT.out.under s2) HLT.out HCT.out HON.out ⟨HGK.out.2.2.1,HGK.out.2.2.2.1⟩).mono ?_;rintro e_ q1 ⟨X1,x1,rfl,ho1,hb1⟩;go_wp2_with fail;refine hK.out _ _ ?_ (fun hHeld=>?_)
  ·exact⟨s0.u hb1,s1.u hb1,bu s2 hb1⟩
  refine mr3 (fun W_=>(SlO stC 2 W_ X1 (goneL t (⟨(e:Int),I,false⟩) n).length x1 (goneL t (⟨(e:Int),I,false⟩) n))) ⟨s0.u hb1,s1.u hb1,bu s2 hb1,ho1.sl⟩ (fun h_=>?_);clear hHeld;have hHeld:=h_;clear h_;clear hK K s0 s1 s2
  try simp only[lyZ]
  refine aoZ 9 (some 43) (fun K hK=>?_);go_simp;obtain⟨s0,s1,s2,s3⟩:=hHeld
  try rw[HJW.out]
  refine(rsover_any t a (goneL t (⟨(e:Int),I,false⟩) n) X1 _ x1 I J _ (HT.out.under s2) s3 (by have:=HGK.out.2.2.2.2.2;omega) HLT.out).mono ?_;rw[<-HR.out];rintro e_ q2 ⟨X2,x2,rfl,ho2,hc2,hb2⟩;go_wp2_with fail;refine hK.out _ _ ?_ (fun hHeld=>?_)
  ·exact⟨s0.u hb2,s1.u hb2,bu s2 hb2,s3.under hb2⟩
  refine mr4 (fun W_=>(SlO snC 3 W_ X2 (qaM t (⟨(e:Int),I,false⟩) n).1.length x2 (qaM t (⟨(e:Int),I,false⟩) n).1)) ⟨s0.u hb2,s1.u hb2,bu s2 hb2,s3.under hb2,ho2⟩ (fun h_=>?_);clear hHeld;have hHeld:=h_;clear h_;clear hK K s0 s1 s2 s3
  try simp only[lyZ]
  refine tkZ 10 44 (h:=?_);simp only[lyZ];refine tkZ 11 45 (h:=?_);simp only[lyZ];refine tkZ 12 6 (h:=?_);simp only[lyZ];refine tkZ 13 7 (h:=?_);simp only[lyZ];refine dnZ ?_;obtain⟨s0,s1,s2,s3,s4⟩:=hHeld;have HBZ:=tB HB s2;go_wp2;go_ret2
  exact⟨X2,x2,rfl,s4,hc2,HBZ.out⟩
 |true=>
  have hi:qat t e-pa=I:=by rw[hie];rfl
  obtain⟨ln,hln⟩: ∃x,t.edges.getD e 0=x:=⟨_,rfl⟩
  have hlen:qat t e=ln:=by unfold qat;rw[<-hln];first|rfl|simp
  rw[hlen]at hi HLB hat
  obtain⟨be,oe,hpa_,ce⟩:=(HT.out).e.edge hel;rw[hln]at ce;have p0:u1.cell? ⟨w.heap.size+1,0,none⟩=some (.int .i64 (e:Int)):=H1.out.cell 0;have p1:u1.cell? ⟨w.heap.size+1,1,none⟩=some (.int .i64 pa):=H1.out.cell 1;have p2:u1.cell? ⟨w.heap.size+1,2,none⟩=some (.bool true):=H1.out.cell 2;have c0:u1.cell? ⟨w.heap.size,0,none⟩=some (.slice (some ⟨be,oe,none⟩) t.edges.length a.ce):=by rw[<-hpa_];exact H0.out.cell 0
  have y0:(0:Int)<=e:=by omega
  have y1:(e:Int)<t.edges.length:=by omega
  have hw2:IntKind.i64.wrap (ln-pa)=I:=by rw[IntKind.wrap_i64];have h1_:=HIB.out;omega
  clear hed hat hie hed2 hel hi hln hlen hpa_;go_upto_region 6 with fail;clear q0 p2;go_quiet (fail);obtain⟨u2,hu2⟩:=geZ (u1.drewN nq);rw[hu2];have hb2:Below u1.heap.size u1 u2:=by rw[<-hu2];exact qac (Below.refl _ _) _
  clear hu2 p0 p1 c0 y0 y1 hw2 ce;have HB:=tB HB hb2;have H0:=uH H0 hb2;have H1:=uH H1 hb2;have HT:=zq (HT.out.under hb2);clear hb2;go_upto_region 7 with fail;have hw1:=HJW.out;refine wp_region_held_drew (S:=(fun W_=>(Has W_ (w.heap.size) 27 (tpC t a))/\(Has W_ (w.heap.size+1) 51 (psA ⟨(e:Int),pa,true⟩))/\(Below u2.heap.size u2 W_))) (by kernel_rfl) ?_ (fun hHeld=>?_)
  ·exact⟨H0.out.draw,H1.out.draw,qaf (Below.refl _ _)⟩
  refine tlZ 0 34 w.heap.size (tpC t a) (fun _ ⟨h_,_,_⟩=>h_) (h:=?_);simp only[lyZ];refine tlZ 1 35 w.heap.size (tpC t a) (fun _ ⟨h_,_,_⟩=>h_) (h:=?_);simp only[lyZ];refine tlZ 2 36 (w.heap.size+1) (psA ⟨(e:Int),pa,true⟩) (fun _ ⟨_,h_,_⟩=>h_) (h:=?_);simp only[lyZ];refine tkZ 3 37 (h:=?_);simp only[lyZ];refine tkZ 5 39 (h:=?_);simp only[lyZ];refine tkZ 6 40 (h:=?_);simp only[lyZ];refine tkZ 7 41 (h:=?_);simp only[lyZ];refine tkZ 8 42 (h:=?_);simp only[lyZ];refine aoZ 4 (some 38) (fun K hK=>?_);go_simp;obtain⟨s0,s1,s2⟩:=hHeld;refine(rgone17 t a (⟨(e:Int),pa,true⟩) n _ (HT.out.under s2) HLT.out HCT.out HON.out ⟨HGK.out.2.2.1,HGK.out.2.2.2.1⟩).mono ?_;rintro e_ q1 ⟨X1,x1,rfl,ho1,hb1⟩;go_wp2_with fail;refine hK.out _ _ ?_ (fun hHeld=>?_)
  ·exact⟨s0.u hb1,s1.u hb1,bu s2 hb1⟩
  refine mr3 (fun W_=>(SlO stC 2 W_ X1 (goneL t (⟨(e:Int),pa,true⟩) n).length x1 (goneL t (⟨(e:Int),pa,true⟩) n))) ⟨s0.u hb1,s1.u hb1,bu s2 hb1,ho1.sl⟩ (fun h_=>?_);clear hHeld;have hHeld:=h_;clear h_;clear hK K s0 s1 s2
  try simp only[lyZ]
  refine aoZ 9 (some 43) (fun K hK=>?_);go_simp;obtain⟨s0,s1,s2,s3⟩:=hHeld
  try rw[HJW.out]
  refine(rsover_any t a (goneL t (⟨(e:Int),pa,true⟩) n) X1 _ x1 I J _ (HT.out.under s2) s3 (by have:=HGK.out.2.2.2.2.2;omega) HLT.out).mono ?_;rw[<-HR.out];rintro e_ q2 ⟨X2,x2,rfl,ho2,hc2,hb2⟩;go_wp2_with fail;refine hK.out _ _ ?_ (fun hHeld=>?_)
  ·exact⟨s0.u hb2,s1.u hb2,bu s2 hb2,s3.under hb2⟩
  refine mr4 (fun W_=>(SlO snC 3 W_ X2 (qaM t (⟨(e:Int),pa,true⟩) n).1.length x2 (qaM t (⟨(e:Int),pa,true⟩) n).1)) ⟨s0.u hb2,s1.u hb2,bu s2 hb2,s3.under hb2,ho2⟩ (fun h_=>?_);clear hHeld;have hHeld:=h_;clear h_;clear hK K s0 s1 s2 s3
  try simp only[lyZ]
  refine tkZ 10 44 (h:=?_);simp only[lyZ];refine tkZ 11 45 (h:=?_);simp only[lyZ];refine tkZ 12 6 (h:=?_);simp only[lyZ];refine tkZ 13 7 (h:=?_);simp only[lyZ];refine dnZ ?_;obtain⟨s0,s1,s2,s3,s4⟩:=hHeld;have HBZ:=tB HB s2;go_wp2;go_ret2
  exact⟨X2,x2,rfl,s4,hc2,HBZ.out⟩
end
section
open Go.ChangeShapes Go.WideShapes Go.ChangeAt Go.RowKit
theorem gWidths:Tryz.prog.globalNamed "lineside/vars.widths" =some 0:=by kernel_rfl
theorem gWidthsType:(Tryz.prog.globals[0]?).map (·.type)=some 280:=by kernel_rfl
theorem cellsWidths:Tryz.prog.cellsOf 280=96:=by kernel_rfl
theorem cellsInt:Tryz.prog.cellsOf 3=1:=by kernel_rfl
def qdl:List Int:=vrows.map fun r=>((r.width:Nat):Int)
theorem laid_widths {H:Type}:(Rows.laid_lineside_vars_widths:DataW H)=Lib.tabData .i64 qdl:=by kernel_rfl
theorem wd_of_laid {W:World}(h:laidMetH Tryz.prog [("lineside/vars.widths",Rows.laid_lineside_vars_widths)] W):Wd W:=by
 rw[laid_widths]at h;have ht:Lib.TabIs Tryz.prog W "lineside/vars.widths" .i64 qdl:=
  Lib.tabIs_of_head (rest:=[]) gWidths gWidthsType Tryz.underlying280 Tryz.underlying3 cellsInt cellsWidths h
 intro i hi;have hl:=vrows_length;have:=ht.cell gWidths i (by simp only[qdl,List.length_map];omega);rw[this];simp[qdl,List.getD_eq_getElem?_getD,List.getElem?_eq_getElem (show i<vrows.length by omega)]
noncomputable def widthsWorld (os:Os):World:=
 {World.holding Tryz.prog os ⟨#[],#[],[]⟩with heap:=(World.holding Tryz.prog os ⟨#[],#[],[]⟩).heap.modify 0 fun
   | .cells _ t frozen=> .cells (qdl.map fun z=>Value.int .i64 z).toArray t frozen
   |o=>o}
end
end Go.Proofs.YtahadmeilajdgaaGreatDoor
