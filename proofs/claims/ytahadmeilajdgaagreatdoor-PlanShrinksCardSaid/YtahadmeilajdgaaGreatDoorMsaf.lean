/-
  Our own text, joined.
-/
import Derived.Test.YtahadmeilajdgaaGreatDoorMsae
import Derived.Test.YtahadmeilajdgaaGreatDoorMsaa
import Derived.Test.YtahadmeilajdgaaGreatDoorMsab
import Derived.BigQuiet
import Derived.IntWalk
import Derived.Test.YtahadmeilajdgaaGreatDoorCards
import Derived.Test.YtahadmeilajdgaaGreatDoorTie
import Derived.WalkKit
import Derived.ProofKit
import Derived.OpenShut
import Derived.Deep.DeepHandedRow
import Derived.Lib.LaidTab
namespace Go.Proofs.YtahadmeilajdgaaGreatDoor
set_option maxRecDepth 100000
set_option maxHeartbeats 8000000
section
open Go.RowKit
theorem slz_made (lo:Nat)(w:World)(t:TypeId)(vs:List Value)(n:Nat)(hn:n=vs.length)(hlo:lo<=w.heap.size):SlZ lo (w.alloc (.cells vs.toArray t)).heap.size (w.alloc (.cells vs.toArray t)) 1 (some ⟨w.heap.size,0,none⟩) n n vs:=by
 refine⟨⟨by omega,fun h=>(by cases h),fun ad ha j u hu=>?_⟩,fun a ha=>?_⟩
 ·cases ha
  rw[WideShapes.add_plain,(Has.made w t vs.toArray).cell,Nat.zero_add]
  simpa using hu
 ·cases ha
  simp;omega
theorem plain_parts (lo:Nat)(A:Option Addr)(n c:Nat)(vs:List Nat)(w:World)(hs:Sl w 1 A n c (nats vs))(hn:n<=100)(hlo:lo<=w.heap.size):
  Calls Tryz.prog 245 #[.slice A n c] w fun e w'=> ∃A' c',e= .returned (.slice A' n c')/\Parts lo w'.heap.size w' A' n c' (plainPts vs)/\Below w.heap.size w w':=by
 have hl:vs.length=n:=by have:=hs.1;simpa[nats]using this
 refine(plain_any A n c vs w hs (by omega)).mono ?_;rintro e w' ⟨A',c',rfl,ho,hb⟩;exact⟨A',c',rfl,Parts.lower ⟨by simp[plainPts,hl],own_cap ho,_,slz_own ho,plain_at _ _ _ vs⟩ hlo,hb⟩
theorem plain_lit (lo:Nat)(vs:List Nat)(w:World)(hn:vs.length<=100)(hlo:lo<=w.heap.size):
  Calls Tryz.prog 245 #[.slice (some ⟨w.heap.size,0,none⟩) vs.length vs.length] (w.alloc (.cells (nats vs).toArray 3)) fun e w'=> ∃A' c',e= .returned (.slice A' vs.length c')/\Parts lo w'.heap.size w' A' vs.length c' (plainPts vs)/\Below w.heap.size w w':=by
 refine(plain_parts lo _ vs.length _ vs _ (slz_made lo w _ (nats vs) vs.length (by simp[nats]) hlo).sl hn (by simp;omega)).mono ?_;rintro e w' ⟨A',c',rfl,hp,hb⟩;exact⟨A',c',rfl,hp,((Below.refl _ w).alloc (Nat.le_refl _) _).trans (hb.mono (by simp))⟩
abbrev PlT:=Option Addr×Nat×Nat×List Pt
def pls (L:List PlT):List Value:=L.map fun x=> .slice x.1 x.2.1 x.2.2.1
def ptsOf (L:List PlT):List Pt:=L.flatMap fun x=>x.2.2.2
def numOf (L:List PlT):Nat:=(L.map fun x=>x.2.1).sum
theorem lists_cells {lo hi:Nat}{w:World}: ∀(L:List PlT),(∀x∈L,Parts lo hi w x.1 x.2.1 x.2.2.1 x.2.2.2/\x.2.1<=100)-> ∃K:List SlT,sls K=pls L/\cntOf K=numOf L/\PtsAt lo hi w (ptsOf L) (cellsOf K)/\ ∀x∈K,Sl w 4 x.1 x.2.1 x.2.2.1 x.2.2.2/\(∀u∈x.2.2.2,u.oneCell'=true)/\x.2.1<=100
 |[],_=>⟨[],rfl,rfl,by show PtsAt lo hi w [] [];rw[PtsAt],fun x h=>by cases h⟩
 |y::L,h=>by
  obtain⟨K,h1,h2,h3,h4⟩:=lists_cells L (fun x hx=>h x (by simp[hx]));obtain⟨hp,hn⟩:=h y (by simp);obtain⟨cs,hz,ha⟩:=hp.mem;refine⟨(y.1,y.2.1,y.2.2.1,cs)::K,?_,?_,?_,?_⟩
  ·show _::sls K=_::pls L;rw[h1]
  ·have e1:cntOf ((y.1,y.2.1,y.2.2.1,cs)::K)=y.2.1+cntOf K:=by simp[cntOf]
   have e2:numOf (y::L)=y.2.1+numOf L:=by simp[numOf]
   rw[e1,e2,h2]
  ·exact ptsAt_append ha h3
  ·intro x hx
   rcases List.mem_cons.1 hx with rfl|hx
   ·exact⟨hz.sl,(ptsAt_cells ha).2,hn⟩
   ·exact h4 x hx
theorem num_len {lo hi:Nat}{w:World}: ∀(L:List PlT),(∀x∈L,Parts lo hi w x.1 x.2.1 x.2.2.1 x.2.2.2/\x.2.1<=100)->(ptsOf L).length=numOf L
 |[],_=>rfl
 |y::L,h=>by
  have ih:=num_len L (fun x hx=>h x (by simp[hx]));have h1:=(h y (by simp)).1.len;have e1:ptsOf (y::L)=y.2.2.2++ptsOf L:=rfl;have e2:numOf (y::L)=y.2.1+numOf L:=by simp[numOf]
  rw[e1,e2,List.length_append,ih,h1]
theorem concat_parts (lo:Nat)(A:Option Addr)(n c:Nat)(L:List PlT)(w:World)(hs:Sl w 1 A n c (pls L))(hn:n<=100)(hx: ∀x∈L,Parts lo w.heap.size w x.1 x.2.1 x.2.2.1 x.2.2.2/\x.2.1<=100)(hlo:lo<=w.heap.size):
  Calls Tryz.prog 244 #[.slice A n c] w fun e w'=> ∃A' c',e= .returned (.slice A' (numOf L) c')/\Parts lo w'.heap.size w' A' (numOf L) c' (ptsOf L)/\Below w.heap.size w w':=by
 obtain⟨K,h1,h2,h3,h4⟩:=lists_cells L hx;have hl:=num_len L hx;refine(concat_any A n c K w (by rw[h1];exact hs) hn h4).mono ?_;rintro e w' ⟨A',c',rfl,ho,hb⟩;rw[h2]at ho;refine⟨A',c',by rw[h2],⟨hl,own_cap ho,_,(slz_own ho).keep (fun _ _ _=>rfl) hlo (Nat.le_refl _),PtsAt.keep (zone_below hb) (Nat.le_refl _) hb.size _ _ h3⟩,hb⟩
theorem concat_lit (lo:Nat)(L:List PlT)(w:World)(hn:L.length<=100)(hx: ∀x∈L,Parts lo w.heap.size w x.1 x.2.1 x.2.2.1 x.2.2.2/\x.2.1<=100)(hlo:lo<=w.heap.size):
  Calls Tryz.prog 244 #[.slice (some ⟨w.heap.size,0,none⟩) L.length L.length] (w.alloc (.cells (pls L).toArray 252)) fun e w'=> ∃A' c',e= .returned (.slice A' (numOf L) c')/\Parts lo w'.heap.size w' A' (numOf L) c' (ptsOf L)/\Below w.heap.size w w':=by
 refine(concat_parts lo _ L.length _ L _ (slz_made lo w _ (pls L) L.length (by simp[pls]) hlo).sl hn (fun x h=>⟨(hx x h).1.beside _,(hx x h).2⟩) (by simp;omega)).mono ?_;rintro e w' ⟨A',c',rfl,hp,hb⟩;exact⟨A',c',rfl,hp,((Below.refl _ w).alloc (Nat.le_refl _) _).trans (hb.mono (by simp))⟩
theorem parts_made {lo:Nat}{w:World}{v k:Nat}{b:List Pt}{Ao:Option Addr}{co:Nat}{Af:Option Addr}{nf cf:Nat}(ho:SlZ lo w.heap.size w 1 Ao (onlyOf k).length co (nats (onlyOf k)))(hf:Parts lo w.heap.size w Af nf cf b)(hlo:lo<=w.heap.size):
  Parts lo (w.alloc (.cells #[.int .i64 (v:Int),.bool (decide (k=0)),.slice Ao (onlyOf k).length co,.slice Af nf cf] 284)).heap.size (w.alloc (.cells #[.int .i64 (v:Int),.bool (decide (k=0)),.slice Ao (onlyOf k).length co,.slice Af nf cf] 284)) (some ⟨w.heap.size,0,none⟩) 1 1 [.mk v k b]:=by
 have hz:Zone lo w.heap.size w (w.alloc (.cells #[.int .i64 (v:Int),.bool (decide (k=0)),.slice Ao (onlyOf k).length co,.slice Af nf cf] 284)):=zone_below (bA);have hs:w.heap.size<=(w.alloc (.cells #[.int .i64 (v:Int),.bool (decide (k=0)),.slice Ao (onlyOf k).length co,.slice Af nf cf] 284)).heap.size:=by simp
 obtain⟨fc,f1,f2⟩:=hf.mem;refine⟨rfl,Nat.le_refl _,[.int .i64 (v:Int),.bool (decide (k=0)),.slice Ao (onlyOf k).length co,.slice Af nf cf],⟨⟨rfl,fun h=>(by cases h),fun ad ha j u hu=>?_⟩,fun a ha=>?_⟩,?_⟩
 ·cases ha
  rw[WideShapes.add_plain,(Has.made w 284 _).cell,Nat.zero_add]
  simpa using hu
 ·cases ha
  simp;omega
 ·rw[PtsAt]
  refine⟨_,[],(List.append_nil _).symm,?_,by rw[PtsAt]⟩;rw[PtAt];exact⟨Ao,co,Af,nf,cf,fc,rfl,ho.keep hz (Nat.le_refl _) hs,hf.len,hf.cap,f1.keep hz (Nat.le_refl _) hs,PtsAt.keep hz (Nat.le_refl _) hs _ _ f2⟩
theorem iter_parts (lo:Nat)(A:Option Addr)(n c:Nat)(L:List PlT)(w:World)(hs:Sl w 1 A n c (pls L))(hn:n<=100)(hx: ∀x∈L,Parts lo w.heap.size w x.1 x.2.1 x.2.2.1 x.2.2.2/\x.2.1<=100)(hlo:lo<=w.heap.size):
  Calls Tryz.prog 246 #[.slice A n c] w fun e w'=> ∃A' c',e= .returned (.slice A' 1 c')/\Parts lo w'.heap.size w' A' 1 c' [.mk 27 0 (ptsOf L)]/\Below w.heap.size w w':=by
 have HC:=zq (concat_parts lo A n c L w hs hn hx hlo);clear hs hx;go_enter Tryz.func246,Tryz.ntmps246;go_wp2_with fail;refine HC.out.mono ?_;rintro e w1 ⟨A1,c1,rfl,hp1,hb1⟩;have hm:=parts_made (v:=27) (k:=0) (slz_nil lo w1.heap.size w1 1) hp1 (Nat.le_trans hlo hb1.size);have HM:=zq hm;have HB:=zq (hb1.alloc hb1.size (.cells #[.int .i64 27,.bool true,.slice none 0 0,.slice A1 (numOf L) c1] 284));clear hp1 hb1 hm HC;go_wp2;go_ret
 exact⟨_,1,rfl,HM.out,HB.out⟩
theorem iter_lit (lo:Nat)(L:List PlT)(w:World)(hn:L.length<=100)(hx: ∀x∈L,Parts lo w.heap.size w x.1 x.2.1 x.2.2.1 x.2.2.2/\x.2.1<=100)(hlo:lo<=w.heap.size):
  Calls Tryz.prog 246 #[.slice (some ⟨w.heap.size,0,none⟩) L.length L.length] (w.alloc (.cells (pls L).toArray 252)) fun e w'=> ∃A' c',e= .returned (.slice A' 1 c')/\Parts lo w'.heap.size w' A' 1 c' [.mk 27 0 (ptsOf L)]/\Below w.heap.size w w':=by
 refine(iter_parts lo _ L.length _ L _ (slz_made lo w _ (pls L) L.length (by simp[pls]) hlo).sl hn (fun x h=>⟨(hx x h).1.beside _,(hx x h).2⟩) (by simp;omega)).mono ?_;rintro e w' ⟨A',c',rfl,hp,hb⟩;exact⟨A',c',rfl,hp,((Below.refl _ w).alloc (Nat.le_refl _) _).trans (hb.mono (by simp))⟩
theorem ifAny_parts (lo v k:Nat)(Ao:Option Addr)(co:Nat)(A:Option Addr)(n c:Nat)(vs:List Nat)(w:World)(hk:k≠0)(ho:SlZ lo w.heap.size w 1 Ao (onlyOf k).length co (nats (onlyOf k)))(hs:Sl w 1 A n c (nats vs))(hn:n<=100)(hlo:lo<=w.heap.size):
  Calls Tryz.prog 261 #[.int .i64 (v:Int),.slice Ao (onlyOf k).length co,.slice A n c] w fun e w'=> ∃A' c',e= .returned (.slice A' 1 c')/\Parts lo w'.heap.size w' A' 1 c' [.mk v k (plainPts vs)]/\Below w.heap.size w w':=by
 have HC:=zq (plain_parts lo A n c vs w hs hn hlo);have HO:=zq ho;have HK:=zq hk;obtain⟨m,hm⟩:=geZ ((onlyOf k).length);rw[hm];have HM:=zq hm;clear hs ho hk hm;go_enter Tryz.func261,Tryz.ntmps261;go_wp2_with fail;refine HC.out.mono ?_;rintro e w1 ⟨A1,c1,rfl,hp1,hb1⟩;have hz:=HO.out.keep (zone_below hb1) (Nat.le_refl _) hb1.size;have hm:=parts_made (v:=v) (k:=k) hz hp1 (Nat.le_trans hlo hb1.size);rw[decide_eq_false HK.out,HM.out]at hm;have HM:=zq hm;have HB:=zq (hb1.alloc hb1.size (.cells #[.int .i64 (v:Int),.bool false,.slice Ao m co,.slice A1 n c1] 284));clear hp1 hb1 hm hz HC;go_wp2;go_ret
 exact⟨_,1,rfl,HM.out,HB.out⟩
theorem ifOne_lit (lo v:Nat)(vs:List Nat)(w:World)(hn:vs.length<=100)(hlo:lo<=w.heap.size):
  Calls Tryz.prog 248 #[.int .i64 (v:Int),.slice (some ⟨w.heap.size,0,none⟩) vs.length vs.length] (w.alloc (.cells (nats vs).toArray 3)) fun e w'=> ∃A' c',e= .returned (.slice A' 1 c')/\Parts lo w'.heap.size w' A' 1 c' [.mk v 1 (plainPts vs)]/\Below w.heap.size w w':=by
 have h1:=slz_made lo w 3 (nats vs) vs.length (by simp[nats]) hlo;have hb:Below w.heap.size w (w.alloc (.cells (nats vs).toArray 3)):=(Below.refl _ w).alloc (Nat.le_refl _) _;have hlo1:lo<=(w.alloc (.cells (nats vs).toArray 3)).heap.size:=Nat.le_trans hlo hb.size;generalize w.alloc (.cells (nats vs).toArray 3)=w1 at*;have h2:=slz_made lo w1 3 [.int .i64 1] 1 rfl hlo1;have hb2:=hb.alloc hb.size (.cells #[.int .i64 1] 3);have h3:Sl (w1.alloc (.cells #[.int .i64 1] 3)) 1 (some ⟨w.heap.size,0,none⟩) vs.length vs.length (nats vs):=h1.sl.under (bA);have HC:=zq (ifAny_parts lo v 1 (some ⟨w1.heap.size,0,none⟩) 1 _ vs.length vs.length vs (w1.alloc (.cells #[.int .i64 1] 3)) (by decide) h2 h3 hn (by simp;omega));have HB:=zq hb2;clear h1 h2 h3 hb hb2;go_enter Tryz.func248,Tryz.ntmps248;go_wp2_with fail;refine HC.out.mono ?_;rintro e w2 ⟨A1,c1,rfl,hp1,hb1⟩;have HP:=zq hp1;have HB2:=tB HB hb1;clear hp1 hb1 HC;go_wp2;go_ret
 exact⟨A1,c1,rfl,HP.out,HB2.out⟩
end
section
open Go.RowKit
theorem may_var (v n:Int)(w:World)(hw:Wd w):
  Calls Tryz.prog 250 #[.int .i64 v,.int .i64 n] w fun e w'=>e= .returned (.bool (mayOf v n))/\w=w':=by
 by_cases h:0<=v/\v<96
 ·by_cases hn:0<=n
  ·have hm:mayOf v n=(decide (n<=mostOf v)||(decide (specialOf v≠0) &&decide (specialOf v<=n) &&decide (n<=greatestOf v))):=by simp[mayOf,h,hn]
   rw[hm];clear hm;have c1:=most_any v w hw;have c2:=greatest_any v w hw;have c3:=special_any v w;generalize mostOf v=M at*;generalize greatestOf v=G at*;generalize specialOf v=S at*;obtain⟨h0,h1⟩:=h;have C1:=zq c1;have C2:=zq c2;have C3:=zq c3;clear c1 c2 c3 hw;by_cases hM:n<=M
   ·rw[decide_eq_true hM,Bool.true_or]
    go_enter Tryz.func250,Tryz.ntmps250;go_wp2_with fail;refine(exists_yes v h0 h1 w).mono ?_;rintro e w' ⟨rfl,rfl⟩;go_wp2_with fail;refine C3.out.mono ?_;rintro e w' ⟨rfl,rfl⟩;go_wp2_with fail;refine C1.out.mono ?_;rintro e w' ⟨rfl,rfl⟩;go_wp2;go_ret
    exact⟨rfl,rfl⟩
   ·rw[decide_eq_false hM,Bool.false_or]
    by_cases hS:S≠0/\S<=n
    ·have e1:(decide (S≠0) &&decide (S<=n) &&decide (n<=G))=decide (n<=G):=by simp[hS]
     rw[e1];clear e1;obtain⟨hS0,hSn⟩:=hS;have hS1:(S !=0)=true:=by simp[hS0]
     obtain⟨b,hb⟩:=geZ (decide (n<=G));rw[hb];go_enter Tryz.func250,Tryz.ntmps250;go_wp2_with fail;refine(exists_yes v h0 h1 w).mono ?_;rintro e w' ⟨rfl,rfl⟩;go_wp2_with fail;refine C3.out.mono ?_;rintro e w' ⟨rfl,rfl⟩;go_wp2_with fail;refine C1.out.mono ?_;rintro e w' ⟨rfl,rfl⟩;go_wp2_with fail;refine C2.out.mono ?_;rintro e w' ⟨rfl,rfl⟩
     cases b
     ·have hG: ¬n<=G:=of_decide_eq_false hb
      go_wp2;go_ret
      exact⟨by show Ending.returned (.bool (decide (n<=M)))=_;rw[decide_eq_false (by omega)],rfl⟩
     ·have hG:n<=G:=of_decide_eq_true hb
      go_wp2;go_ret
      exact⟨rfl,rfl⟩
    ·have e1:(decide (S≠0) &&decide (S<=n) &&decide (n<=G))=false:=by
      by_cases h2:S=0
      ·simp[h2]
      ·have: ¬S<=n:=fun h3=>hS ⟨h2,h3⟩
       simp[this]
     rw[e1];clear e1;have HS:=zq hS;clear hS;go_enter Tryz.func250,Tryz.ntmps250;go_wp2_with fail;refine(exists_yes v h0 h1 w).mono ?_;rintro e w' ⟨rfl,rfl⟩;go_wp2_with fail;refine C3.out.mono ?_;rintro e w' ⟨rfl,rfl⟩;go_wp2_with fail;refine C1.out.mono ?_;rintro e w' ⟨rfl,rfl⟩;by_cases h2:S=0
     ·have hS1:(S !=0)=false:=by simp[h2]
      clear HS;go_wp2;go_ret
      exact⟨by show Ending.returned (.bool (decide (n<=M)))=_;rw[decide_eq_false (by omega)],rfl⟩
     ·have hS1:(S !=0)=true:=by simp[h2]
      have hS2: ¬S<=n:=fun h3=>HS.out ⟨h2,h3⟩;clear HS;go_wp2;go_ret
      exact⟨by show Ending.returned (.bool (decide (n<=M)))=_;rw[decide_eq_false (by omega)],rfl⟩
  ·have hm:mayOf v n=false:=by simp[mayOf,hn]
   rw[hm];clear hm hw;obtain⟨h0,h1⟩:=h;go_enter Tryz.func250,Tryz.ntmps250;go_wp2_with fail;refine(exists_yes v h0 h1 w).mono ?_;rintro e w' ⟨rfl,rfl⟩;go_wp2;go_ret
   exact⟨rfl,rfl⟩
 ·have hm:mayOf v n=false:=by simp[mayOf,h]
  rw[hm];have H:=zq h;clear hm hw h;go_enter Tryz.func250,Tryz.ntmps250;go_wp2_with fail;refine(exists_no v H.out w).mono ?_;rintro e w' ⟨rfl,rfl⟩;go_wp2;go_ret
  exact⟨rfl,rfl⟩
end
section
open Go.RowKit
open Go.Great
def lineT:Tp3:=⟨[100,200,300],[⟨(0,1),(1,0)⟩,⟨(1,1),(2,0)⟩],[⟨7,0,10⟩,⟨8,1,20⟩,⟨9,2,30⟩],[⟨1,[⟨0,false⟩,⟨1,false⟩],0,30⟩,⟨2,[⟨1,false⟩,⟨2,false⟩],50,20⟩]⟩
theorem line_light:lightT lineT=true:=by decide+kernel
theorem line_any (w:World):
  Calls Tryz.prog 38 #[] w fun e w'=> ∃a:TpA,e= .returned (.agg (tpC lineT a))/\TopR w' lineT a/\lineT.joints.length<=a.cj/\Below w.heap.size w w':=by
 obtain⟨wa,hwa⟩:=geZ (((((((w.alloc (.cells #[.slice none 0 0,.slice none 0 0,.slice none 0 0,.slice none 0 0] 27)).alloc (.cells #[.int .i64 100,.int .i64 200,.int .i64 300] 3)).alloc (.cells #[.int .i64 0,.int .i64 1,.int .i64 1,.int .i64 0,.int .i64 1,.int .i64 1,.int .i64 2,.int .i64 0] 149)).alloc (.cells #[.int .i64 7,.int .i64 0,.int .i64 10,.int .i64 8,.int .i64 1,.int .i64 20,.int .i64 9,.int .i64 2,.int .i64 30] 151)).alloc (.cells #[.int .i64 0,.bool false,.int .i64 1,.bool false] 30)).alloc (.cells #[.int .i64 1,.bool false,.int .i64 2,.bool false] 30)).alloc (.cells #[.int .i64 1,.slice (some ⟨w.heap.size+1+1+1+1,0,none⟩) 2 2,.int .i64 0,.int .i64 30,.int .i64 2,.slice (some ⟨w.heap.size+1+1+1+1+1,0,none⟩) 2 2,.int .i64 50,.int .i64 20] 75));have hbwa:Below w.heap.size w wa:=by rw[<-hwa];exact((((((bA).alloc (by simp) _).alloc (by simp;omega) _).alloc (by simp;omega) _).alloc (by simp;omega) _).alloc (by simp;omega) _).alloc (by simp;omega) _
 have h0:Has wa (w.heap.size) 27 #[.slice none 0 0,.slice none 0 0,.slice none 0 0,.slice none 0 0]:=by rw[<-hwa];exact(((((((Has.made _ _ _).beside _).beside _).beside _).beside _).beside _).beside _)
 have h1:Has wa (w.heap.size+1) 3 #[.int .i64 100,.int .i64 200,.int .i64 300]:=by rw[<-hwa];exact((((((has_at11 (by simp)).beside _).beside _).beside _).beside _).beside _)
 have h2:Has wa (w.heap.size+1+1) 149 #[.int .i64 0,.int .i64 1,.int .i64 1,.int .i64 0,.int .i64 1,.int .i64 1,.int .i64 2,.int .i64 0]:=by rw[<-hwa];exact(((((has_at11 (by simp)).beside _).beside _).beside _).beside _)
 have h3:Has wa (w.heap.size+1+1+1) 151 #[.int .i64 7,.int .i64 0,.int .i64 10,.int .i64 8,.int .i64 1,.int .i64 20,.int .i64 9,.int .i64 2,.int .i64 30]:=by rw[<-hwa];exact((((has_at11 (by simp)).beside _).beside _).beside _)
 have h4:Has wa (w.heap.size+1+1+1+1) 30 #[.int .i64 0,.bool false,.int .i64 1,.bool false]:=by rw[<-hwa];exact(((has_at11 (by simp)).beside _).beside _)
 have h5:Has wa (w.heap.size+1+1+1+1+1) 30 #[.int .i64 1,.bool false,.int .i64 2,.bool false]:=by rw[<-hwa];exact((has_at11 (by simp)).beside _)
 have h6:Has wa (w.heap.size+1+1+1+1+1+1) 75 #[.int .i64 1,.slice (some ⟨w.heap.size+1+1+1+1,0,none⟩) 2 2,.int .i64 0,.int .i64 30,.int .i64 2,.slice (some ⟨w.heap.size+1+1+1+1+1,0,none⟩) 2 2,.int .i64 50,.int .i64 20]:=by rw[<-hwa];exact(has_at11 (by simp))
 have HWA:=zq hwa;have HBWA:=zq hbwa;have HR:=zq (has_row11 h0 #[.slice (some ⟨w.heap.size+1,0,none⟩) 3 3,.slice (some ⟨w.heap.size+1+1,0,none⟩) 2 2,.slice (some ⟨w.heap.size+1+1+1,0,none⟩) 3 3,.slice (some ⟨w.heap.size+1+1+1+1+1+1,0,none⟩) 2 2]);have HBF:=zq (below_row (g:=w.heap.size) hbwa (Nat.le_refl _) #[.slice (some ⟨w.heap.size+1,0,none⟩) 3 3,.slice (some ⟨w.heap.size+1+1,0,none⟩) 2 2,.slice (some ⟨w.heap.size+1+1+1,0,none⟩) 3 3,.slice (some ⟨w.heap.size+1+1+1+1+1+1,0,none⟩) 2 2]);have k1:=has_rowo11 (g:=w.heap.size) h1 (by omega) #[.slice (some ⟨w.heap.size+1,0,none⟩) 3 3,.slice (some ⟨w.heap.size+1+1,0,none⟩) 2 2,.slice (some ⟨w.heap.size+1+1+1,0,none⟩) 3 3,.slice (some ⟨w.heap.size+1+1+1+1+1+1,0,none⟩) 2 2];have k2:=has_rowo11 (g:=w.heap.size) h2 (by omega) #[.slice (some ⟨w.heap.size+1,0,none⟩) 3 3,.slice (some ⟨w.heap.size+1+1,0,none⟩) 2 2,.slice (some ⟨w.heap.size+1+1+1,0,none⟩) 3 3,.slice (some ⟨w.heap.size+1+1+1+1+1+1,0,none⟩) 2 2];have k3:=has_rowo11 (g:=w.heap.size) h3 (by omega) #[.slice (some ⟨w.heap.size+1,0,none⟩) 3 3,.slice (some ⟨w.heap.size+1+1,0,none⟩) 2 2,.slice (some ⟨w.heap.size+1+1+1,0,none⟩) 3 3,.slice (some ⟨w.heap.size+1+1+1+1+1+1,0,none⟩) 2 2];have k4:=has_rowo11 (g:=w.heap.size) h4 (by omega) #[.slice (some ⟨w.heap.size+1,0,none⟩) 3 3,.slice (some ⟨w.heap.size+1+1,0,none⟩) 2 2,.slice (some ⟨w.heap.size+1+1+1,0,none⟩) 3 3,.slice (some ⟨w.heap.size+1+1+1+1+1+1,0,none⟩) 2 2];have k5:=has_rowo11 (g:=w.heap.size) h5 (by omega) #[.slice (some ⟨w.heap.size+1,0,none⟩) 3 3,.slice (some ⟨w.heap.size+1+1,0,none⟩) 2 2,.slice (some ⟨w.heap.size+1+1+1,0,none⟩) 3 3,.slice (some ⟨w.heap.size+1+1+1+1+1+1,0,none⟩) 2 2];have k6:=has_rowo11 (g:=w.heap.size) h6 (by omega) #[.slice (some ⟨w.heap.size+1,0,none⟩) 3 3,.slice (some ⟨w.heap.size+1+1,0,none⟩) 2 2,.slice (some ⟨w.heap.size+1+1+1,0,none⟩) 3 3,.slice (some ⟨w.heap.size+1+1+1+1+1+1,0,none⟩) 2 2];obtain⟨wz,hwz⟩:=geZ (wa.setRow w.heap.size #[.slice (some ⟨w.heap.size+1,0,none⟩) 3 3,.slice (some ⟨w.heap.size+1+1,0,none⟩) 2 2,.slice (some ⟨w.heap.size+1+1+1,0,none⟩) 3 3,.slice (some ⟨w.heap.size+1+1+1+1+1+1,0,none⟩) 2 2]);rw[hwz]at HR HBF k1 k2 k3 k4 k5 k6;have HT:Hid (TopR wz lineT ⟨some ⟨w.heap.size+1,0,none⟩,3,some ⟨w.heap.size+1+1,0,none⟩,2,some ⟨w.heap.size+1+1+1,0,none⟩,3,some ⟨w.heap.size+1+1+1+1+1+1,0,none⟩,2⟩):=zq ⟨⟨rfl,sl_hasR k1 rfl⟩,⟨rfl,sl_hasR k2 rfl⟩,⟨rfl,sl_hasR k3 rfl⟩,⟨[(⟨1,[⟨0,false⟩,⟨1,false⟩],0,30⟩,.slice (some ⟨w.heap.size+1+1+1+1,0,none⟩) 2 2),(⟨2,[⟨1,false⟩,⟨2,false⟩],50,20⟩,.slice (some ⟨w.heap.size+1+1+1+1+1,0,none⟩) 2 2)],rfl,⟨rfl,sl_hasR k6 rfl⟩,fun p hp=>by
  simp only[List.mem_cons,List.not_mem_nil,or_false]at hp
  rcases hp with rfl|rfl
  ·exact⟨⟨some ⟨w.heap.size+1+1+1+1,0,none⟩,2,rfl,rfl,sl_hasR k4 rfl⟩,fun A n c e=>by cases e;exact Nat.le_refl _⟩
  ·exact⟨⟨some ⟨w.heap.size+1+1+1+1+1,0,none⟩,2,rfl,rfl,sl_hasR k5 rfl⟩,fun A n c e=>by cases e;exact Nat.le_refl _⟩⟩⟩
 have HZ:=zq h0;have HWZ:=zq hwz;clear hwz hwa hbwa h0 h1 h2 h3 h4 h5 h6 k1 k2 k3 k4 k5 k6;go_enter Tryz.func38,Tryz.ntmps38;go_upto_region 1 with fail;go_wp2_with (first|(rw[HWA.out];with_reducible refine stZ #[.slice (some ⟨w.heap.size+1,0,none⟩) 3 3,.slice (some ⟨w.heap.size+1+1,0,none⟩) 2 2,.slice (some ⟨w.heap.size+1+1+1,0,none⟩) 3 3,.slice (some ⟨w.heap.size+1+1+1+1+1+1,0,none⟩) 2 2] HZ.out ?_));rw[HWZ.out];refine roZ HR.out ?_;exact⟨_,rfl,HT.out,Nat.le_refl _,HBF.out⟩
end
section
open Go.ChangeShapes Go.WideShapes Go.ChangeAt Go.RowKit
theorem gWidths:Tryz.prog.globalNamed "lineside/vars.widths" =some 0:=by kernel_rfl
theorem gWidthsType:(Tryz.prog.globals[0]?).map (·.type)=some 280:=by kernel_rfl
theorem cellsWidths:Tryz.prog.cellsOf 280=96:=by kernel_rfl
theorem cellsInt:Tryz.prog.cellsOf 3=1:=by kernel_rfl
def widthInts:List Int:=vrows.map fun r=>((r.width:Nat):Int)
theorem laid_widths {H:Type}:(Rows.laid_lineside_vars_widths:DataW H)=Lib.tabData .i64 widthInts:=by kernel_rfl
theorem wd_of_laid {W:World}(h:laidMetH Tryz.prog [("lineside/vars.widths",Rows.laid_lineside_vars_widths)] W):Wd W:=by
 rw[laid_widths]at h;have ht:Lib.TabIs Tryz.prog W "lineside/vars.widths" .i64 widthInts:=
  Lib.tabIs_of_head (rest:=[]) gWidths gWidthsType Tryz.underlying280 Tryz.underlying3 cellsInt cellsWidths h
 intro i hi;have hl:=vrows_length;have:=ht.cell gWidths i (by simp only[widthInts,List.length_map];omega);rw[this];simp[widthInts,List.getD_eq_getElem?_getD,List.getElem?_eq_getElem (show i<vrows.length by omega)]
noncomputable def widthsWorld (os:Os):World:=
 {World.holding Tryz.prog os ⟨#[],#[],[]⟩with heap:=(World.holding Tryz.prog os ⟨#[],#[],[]⟩).heap.modify 0 fun
   | .cells _ t frozen=> .cells (widthInts.map fun z=>Value.int .i64 z).toArray t frozen
   |o=>o}
end
end Go.Proofs.YtahadmeilajdgaaGreatDoor
