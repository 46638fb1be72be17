/-
  Our own text, joined.
-/
import Derived.Shelf.SlSortCmp.WholeK
import Derived.Test.YtahadmeilajdgaaGreatDoorMtae
import Derived.Test.YtahadmeilajdgaaGreatDoorMtaa
import Derived.Test.YtahadmeilajdgaaGreatDoorMtaf
import Derived.Test.YtahadmeilajdgaaGreatDoorMtac
import Derived.BigQuiet
import Derived.IntWalk
import Derived.WalkMore
import Derived.Test.YtahadmeilajdgaaGreatDoorMtab
import Derived.Test.YtahadmeilajdgaaGreatDoorMtad
import Derived.Test.YtahadmeilajdgaaGreatDoorMtag
namespace Go.Proofs.YtahadmeilajdgaaGreatDoor
set_option maxRecDepth 100000
set_option maxHeartbeats 8000000
section
open Go.Shelf
open Go.RowKit
def qeU:Go.Shelf.Ren:=⟨fun|6=>168|15=>199|14=>204|28=>231|29=>232|20=>234|21=>235|22=>236|23=>237|24=>238|25=>239|26=>240|27=>241|46=>258|47=>254|48=>255|49=>259|50=>260|57=>268|n=>n,fun|22=>35|24=>30|25=>145|3=>3|39=>243|0=>0|53=>272|55=>274|4=>4|46=>265|45=>264|50=>269|5=>5|9=>9|66=>287|70=>291|76=>299|77=>61|n=>n,fun|n=>n⟩
theorem sortSt13:Go.Proofs.SlLaysF0.n6 Tryz.prog qeU:= {
 mixed:=by kernel_rfl
 f6:=⟨Tryz.f168.name,by decide,Tryz.func168.trans (congrArg some (by kernel_rfl))⟩
 f14:=⟨Tryz.f204.name,by decide,Tryz.func204.trans (congrArg some (by kernel_rfl))⟩
 f15:=Tryz.func199.trans (congrArg some (by kernel_rfl))
 f20:=⟨Tryz.f234.name,by decide,Tryz.func234.trans (congrArg some (by kernel_rfl))⟩
 f21:=⟨Tryz.f235.name,by decide,Tryz.func235.trans (congrArg some (by kernel_rfl))⟩
 f22:=⟨Tryz.f236.name,by decide,Tryz.func236.trans (congrArg some (by kernel_rfl))⟩
 f23:=⟨Tryz.f237.name,by decide,Tryz.func237.trans (congrArg some (by kernel_rfl))⟩
 f24:=⟨Tryz.f238.name,by decide,Tryz.func238.trans (congrArg some (by kernel_rfl))⟩
 f25:=⟨Tryz.f239.name,by decide,Tryz.func239.trans (congrArg some (by kernel_rfl))⟩
 f26:=⟨Tryz.f240.name,by decide,Tryz.func240.trans (congrArg some (by kernel_rfl))⟩
 f27:=⟨Tryz.f241.name,by decide,Tryz.func241.trans (congrArg some (by kernel_rfl))⟩
 f28:=Tryz.func231.trans (congrArg some (by kernel_rfl))
 f29:=Tryz.func232.trans (congrArg some (by kernel_rfl))
 f46:=⟨Tryz.f258.name,by decide,Tryz.func258.trans (congrArg some (by kernel_rfl))⟩
 f47:=Tryz.func254.trans (congrArg some (by kernel_rfl))
 f48:=Tryz.func255.trans (congrArg some (by kernel_rfl))
 f49:=⟨Tryz.f259.name,by decide,Tryz.func259.trans (congrArg some (by kernel_rfl))⟩
 f50:=⟨Tryz.f260.name,by decide,Tryz.func260.trans (congrArg some (by kernel_rfl))⟩
 f57:=⟨Tryz.f268.name,by decide,Tryz.func268.trans (congrArg some (by kernel_rfl))⟩
 t0:=Tryz.underlying0
 a0:=Tryz.isAgg0
 z0:=Tryz.sizeOf0
 v0:=Tryz.zeroValue0
 t3:=Tryz.underlying3
 a3:=Tryz.isAgg3
 z3:=Tryz.sizeOf3
 v3:=Tryz.zeroValue3
 t4:=Tryz.underlying4
 a4:=Tryz.isAgg4
 z4:=Tryz.sizeOf4
 v4:=Tryz.zeroValue4
 t5:=Tryz.underlying5
 a5:=Tryz.isAgg5
 z5:=Tryz.sizeOf5
 v5:=Tryz.zeroValue5
 t9:=Tryz.underlying9
 a9:=Tryz.isAgg9
 z9:=Tryz.sizeOf9
 v9:=Tryz.zeroValue9
 t22:=Tryz.underlying35
 a22:=Tryz.isAgg35
 z22:=Tryz.sizeOf35
 v22:=Tryz.zeroValue35
 t25:=Tryz.underlying145
 a25:=Tryz.isAgg145
 z25:=Tryz.sizeOf145
 v25:=Tryz.zeroValue145
 t39:=Tryz.underlying243
 a39:=Tryz.isAgg243
 z39:=Tryz.sizeOf243
 v39:=Tryz.zeroValue243
 t45:=Tryz.underlying264
 a45:=Tryz.isAgg264
 z45:=Tryz.sizeOf264
 v45:=Tryz.zeroValue264
 t46:=Tryz.underlying265
 a46:=Tryz.isAgg265
 z46:=Tryz.sizeOf265
 v46:=Tryz.zeroValue265
 t50:=Tryz.underlying269
 a50:=Tryz.isAgg269
 z50:=Tryz.sizeOf269
 v50:=Tryz.zeroValue269
 t53:=Tryz.underlying272
 a53:=Tryz.isAgg272
 z53:=Tryz.sizeOf272
 v53:=Tryz.zeroValue272
 t55:=Tryz.underlying274
 a55:=Tryz.isAgg274
 z55:=Tryz.sizeOf274
 v55:=Tryz.zeroValue274
 t66:=Tryz.underlying287
 a66:=Tryz.isAgg287
 z66:=Tryz.sizeOf287
 v66:=Tryz.zeroValue287
 t70:=Tryz.underlying291
 a70:=Tryz.isAgg291
 z70:=Tryz.sizeOf291
 v70:=Tryz.zeroValue291
 t76:=Tryz.underlying299
 a76:=Tryz.isAgg299
 z76:=Tryz.sizeOf299
 v76:=Tryz.zeroValue299
 t77:=Tryz.underlying61
 a77:=Tryz.isAgg61
 z77:=Tryz.sizeOf61
 v77:=Tryz.zeroValue61}
end
section
open Go.RowKit
open Go.Great
open Go.Sort (putRowK HoldsK size_putRowK alloc_eq_grow grow_grow)
instance : Inhabited St3 := ⟨⟨0, false⟩⟩
def befS (x y:St3):Bool:=decide (x.edge<y.edge)||((x.edge==y.edge) &&(!x.rev &&y.rev))
theorem lt_cmpS (x y:St3):ltOf cmpS x y=befS x y:=by
 obtain⟨a,b⟩:=x;obtain⟨c,d⟩:=y;unfold ltOf cmpS ltS eqS befS;dsimp only;by_cases h1:a<c
 ·have h2:(a==c)=false:=by simp;omega
  rw[decide_eq_true h1,h2];simp
 ·by_cases h2:a=c
  ·subst h2
   cases b<;>cases d<;>simp
  ·have h3:(a==c)=false:=by simp[h2]
   rw[decide_eq_false h1,h3];simp
theorem bef_iff (x y:St3):befS x y=true↔x.edge<y.edge\/(x.edge=y.edge/\x.rev=false/\y.rev=true):=by
 unfold befS;simp
theorem qdO (x y:St3):befS x y=false↔ ¬(x.edge<y.edge\/(x.edge=y.edge/\x.rev=false/\y.rev=true)):=by
 rw[<-bef_iff];simp
theorem swo_cmpS:Go.Sort.SWO (ltOf cmpS) where
 irrefl x:=by rw[lt_cmpS,qdO];cases x.rev<;>simp
 trans x y z h1 h2:=by
  rw[lt_cmpS,bef_iff]at*;obtain⟨a,b⟩:=x;obtain⟨c,d⟩:=y;obtain⟨e,f⟩:=z;dsimp only at*
  cases b<;>cases d<;>cases f<;>simp at* <;>omega
 ntrans x y z h1 h2:=by
  rw[lt_cmpS,qdO]at*;obtain⟨a,b⟩:=x;obtain⟨c,d⟩:=y;obtain⟨e,f⟩:=z;dsimp only at*
  cases b<;>cases d<;>cases f<;>simp at* <;>omega
theorem cmpLays13 (b off size:Nat)(w:World):CmpLays Tryz.prog 97 #[] stC 2 cmpS b off size w:=fun m os dk _ x y=>
 (otcmp_any x y (sortWorldK stC 2 w b off m dk os)).mono fun e w' ⟨he,hw⟩=>by
  subst hw;exact⟨he,0,_,by rw[alloc_eq_grow,alloc_eq_grow,grow_grow];rfl⟩
theorem sorted_only (w:World)(b off n:Nat)(d:Array St3)(os:Array Obj):w.grownBy (sortWorldK stC 2 w b off n d os) (some b):=by
 have hs:(putRowK stC 2 (Go.Sort.ahead w n) b off d).heap.size=w.heap.size:=size_putRowK _ _ _ _ _ _;refine⟨rfl,rfl,rfl,?_,fun i hi hne=>?_⟩
 ·show w.heap.size<=((putRowK stC 2 (Go.Sort.ahead w n) b off d).heap++os).size
  rw[Array.size_append,hs];omega
 ·show((putRowK stC 2 (Go.Sort.ahead w n) b off d).heap++os)[i]?=w.heap[i]?
  rw[Array.getElem?_append_left (by rw[hs];exact hi)];show(w.heap.modify b _)[i]?=w.heap[i]?
  rw[Array.getElem?_modify,if_neg (fun e=>hne (by rw[e]))]
theorem otsort_any (l:List St3)(b off c:Nat)(w:World)(hH:HoldsK stC 2 w b off l.toArray)(hb:b<w.heap.size)(hn:l.length<=1048576):
  Calls Tryz.prog 168 #[.slice (some ⟨b,off,none⟩) l.length c,.func (.func 97) #[] #[]] w fun e w'=>e= .returned (.tuple #[])/\ ∃l':List St3,l'.Perm l/\l'.Pairwise (fun x y=>befS y x=false)/\HoldsK stC 2 w' b off l'.toArray/\w.grownBy w' (some b):=by
 have eg: ∀args w,(callFunc 97 args).run Tryz.prog w= .ok (.enter 97 args) w:=enters_of Tryz.func97 (by kernel_rfl) rfl;have hcon:=AnyQ.slices_SortFunc sortSt13 2 Tryz.isAgg30 Tryz.sizeOf30 stC (fun _=>rfl) (fun x v hv=>by unfold stC at hv;simp at hv;rcases hv with rfl|rfl<;>rfl) cmpS swo_cmpS 97 #[] b off c l.toArray w eg (cmpLays13 b off l.toArray.size w) hH hb (by simp;omega)
 change Calls Tryz.prog 168 _ _ _ at hcon
 rw[List.size_toArray]at hcon;refine hcon.mono ?_;rintro e w' ⟨rfl,d',n,os,⟨h1,_,h3⟩,h4,rfl⟩;refine⟨rfl,d'.toList,?_,?_,?_,sorted_only _ _ _ _ _ _⟩
 ·have e1:d'.toList.length=l.length:=by simpa using h1
  have h5:(List.take l.length d'.toList).Perm l:=by simpa using h3
  rwa [List.take_of_length_le (by omega)]at h5
 ·rw[List.pairwise_iff_getElem]
  intro i j hi hj hij;have:=h4 i j (Nat.zero_le _) hij (by
                      have e1:d'.size=l.length:=by simpa using h1
                      have e2:j<d'.size:=by simpa using hj
                      omega)
  rw[lt_cmpS]at this;rw[getElem!_pos d' j (by simpa using hj),getElem!_pos d' i (by simpa using hi)]at this
  simpa using this
 ·rw[Array.toArray_toList]
  exact(show SWK stC 2 w b off d' _ from⟨n,os,rfl⟩).holds hb hH h1
theorem otins_none (p:Option Addr)(c:Nat)(fv:Value)(w:World):
  Calls Tryz.prog 234 #[.slice p 0 c,.int .i64 0,.int .i64 0,fv] w fun e w'=>e= .returned (.tuple #[])/\w'=w:=by
 go_enter Tryz.func234,Tryz.ntmps234;go_wp2;refine wp_loop_rounds 1 ?_;rw[rounds_succ];go_wp2;go_end0
 exact⟨rfl,rfl⟩
theorem otpdq_none (p:Option Addr)(c:Nat)(lim:Int)(fv:Value)(w:World):
  Calls Tryz.prog 204 #[.slice p 0 c,.int .i64 0,.int .i64 0,.int .i64 lim,fv] w fun e w'=>e= .returned (.tuple #[])/\w'=w:=by
 have H:=zq (fun W=>otins_none p c fv W);go_enter Tryz.func204,Tryz.ntmps204;go_wp2;refine wp_loop_rounds 1 ?_;rw[rounds_succ];go_wp2_with fail;refine(H.out _).mono ?_;rintro e w' ⟨rfl,rfl⟩;go_wp2
 (try simp only[Exit.inBlock,Exit.then])
 refine bodyPost_ret (results_none rfl _ _ _) rfl ?_;exact⟨rfl,rfl⟩
theorem otsort_none (p:Option Addr)(c:Nat)(fv:Value)(w:World):
  Calls Tryz.prog 168 #[.slice p 0 c,fv] w fun e w'=>e= .returned (.tuple #[])/\w'=w:=by
 have HL:Hid (∀W,Calls Tryz.prog 199 #[.int .u64 0] W fun e w'=>e= .returned (.int .i64 (Go.Lib.bitLen 0:Nat))/\w'=W):=zq fun W=>Any.bits_Len (SlLaysF0.n15.bits (P:=Tryz.prog) (ρ:=qeU) {sortSt13 with}) 0 W (by omega) (by omega);have HP:=zq (fun lim W=>otpdq_none p c lim fv W);go_enter Tryz.func168,Tryz.ntmps168;go_wp2_with fail;refine(HL.out _).mono ?_;rintro e w' ⟨rfl,rfl⟩;go_wp2_with fail;refine(HP.out _ _).mono ?_;rintro e w' ⟨rfl,rfl⟩;go_wp2;go_end0
 exact⟨rfl,rfl⟩
end
section
open Go.RowKit
open Go.Great
open Go.Sort (flatK HoldsK get_flatK)
open Go.Maps (has)
theorem flatK_eq (l:List St3)(j:Nat)(hj:j<l.length*2):(l.flatMap stC)[j]?=some (flatK stC 2 l.toArray)[j]!:=by
 have h1:j/2<l.length:=by omega
 have h2:=qfg (f:=stC) (k:=2) (fun _=>rfl) (List.getElem?_eq_getElem h1) (i:=j %2) (by omega)
 rw[show j/2*2+j %2=j by omega]at h2;rw[h2,get_flatK _ _ _ _ (by simpa using hj)];have h3:l.toArray[j/2]! =l[j/2]:=by rw[getElem!_pos l.toArray (j/2) (by simpa using h1)];simp
 rw[h3]
 rcases Nat.mod_two_eq_zero_or_one j with h|h<;>rw[h]<;>rfl
theorem holds_of_own {w:World}{base g c:Nat}{l:List St3}(h:w.ownsRow base 30 2 (.slice (some ⟨g,0,none⟩) l.length c) l.length (l.flatMap stC)):HoldsK stC 2 w g 0 l.toArray:=by
 intro j hj;have hj':j<l.length*2:=by simpa using hj
 refine⟨?_,?_⟩
 ·have:=(Sl.of_own h).2.2 _ rfl j _ (flatK_eq l j hj')
  rw[show((⟨g,0,none⟩:Addr).add j)=⟨g,0+j,none⟩ by simp[Addr.add];exact fun h=>h.symm]at this;exact this
 ·rcases h.2 with⟨e,_⟩|⟨g',cap,cur,e,_,hb,_⟩
  ·cases e
  ·cases e
   exact Has.thaw (show Has w g 30 cur from hb) _
theorem slo_of_holds {w:World}{g c:Nat}{l:List St3}(h:HoldsK stC 2 w g 0 l.toArray):SlO stC 2 w (some ⟨g,0,none⟩) l.length c l:=by
 refine⟨rfl,qbx (f:=stC) (k:=2) (fun _=>rfl) l,(fun e=>by cases e),fun ad ha j u hu=>?_⟩
 cases ha
 have hj:j<l.length*2:=by
  have:=(List.getElem?_eq_some_iff.1 hu).1
  rwa [qbx (f:=stC) (k:=2) (fun _=>rfl)]at this
 rw[flatK_eq l j hj]at hu
 cases hu
 have:=(h j (by simpa using hj)).1;rw[show((⟨g,0,none⟩:Addr).add j)=⟨g,0+j,none⟩ by simp[Addr.add];exact fun h=>h.symm];exact this
theorem otcollect_any (gf:Nat)(lb:Array Value)(S:List St3->Prop)(N:Nat)(hN:N<=1048576)(w:World)(eg: ∀args w,(callFunc gf args).run Tryz.prog w= .ok (.enter gf args) w)
  (hseq:SeqStopsK Fence.wide 3 Tryz.prog gf lb encT KeepsWalks S (fun _=>True) N w):
  Calls Tryz.prog 167 #[.func (.func gf) #[] lb] w fun e w'=> ∃(v:Value) (ss:List St3),e= .returned v/\S ss/\Hid (w'.ownsRow w.heap.size 30 2 v ss.length (ss.flatMap stC))/\Below w.heap.size w w':=by
 have H:=zq (otappend_any gf lb S N hN w eg hseq);clear hseq eg;go_enter Tryz.func167,Tryz.ntmps167;go_wp2_with fail;refine H.out.mono ?_;rintro e w1 ⟨v,ss,rfl,hS,ho,hb⟩;have HS:=zq hS;have HB:=zq hb;clear hS hb H;go_wp2;go_ret
 exact⟨v,ss,rfl,HS.out,ho,HB.out⟩
theorem otsorted_any (gf:Nat)(lb:Array Value)(S:List St3->Prop)(N:Nat)(hN:N<=1048576)(hS: ∀ss,S ss->ss.length<=1048576)(w:World)(eg: ∀args w,(callFunc gf args).run Tryz.prog w= .ok (.enter gf args) w)
  (hseq:SeqStopsK Fence.wide 3 Tryz.prog gf lb encT KeepsWalks S (fun _=>True) N w):
  Calls Tryz.prog 94 #[.func (.func gf) #[] lb,.func (.func 97) #[] #[]] w fun e w'=> ∃(A:Option Addr) (c:Nat) (l:List St3),e= .returned (.slice A l.length c)/\Hid (SlO stC 2 w' A l.length c l)/\Hid (∃ss,S ss/\l.Perm ss)/\Hid (l.Pairwise (fun x y=>befS y x=false))/\Below w.heap.size w w':=by
 have H:=zq (otcollect_any gf lb S N hN w eg hseq);have HS:=zq hS;clear hseq eg hS;go_enter Tryz.func94,Tryz.ntmps94;go_wp2_with fail;refine H.out.mono ?_;rintro e w1 ⟨v,ss,rfl,hS,ho,hb⟩;have HSS:=zq hS;have HB:=zq hb;clear hS hb H;obtain⟨A,c,rfl⟩:=qdg ho.out
 cases A with
 |none=>
  obtain rfl:ss=[]:=by
   rcases ho.out.2 with⟨_,h⟩|⟨g,cap,cur,e,_⟩
   ·exact List.eq_nil_of_length_eq_zero h
   ·cases e
  have HN:=zq (fun W=>otsort_none none c (.func (.func 97) #[] #[]) W);rw[List.length_nil]at ho⊢;go_wp2_with fail;refine(HN.out _).mono ?_;rintro e w2 ⟨rfl,rfl⟩;have HO2:=ho;clear HN ho;go_wp2;go_ret
  refine⟨none,c,[],rfl,zq ⟨rfl,Sl.of_own HO2.out⟩,zq ⟨[],HSS.out,List.Perm.refl _⟩,zq List.Pairwise.nil,HB.out⟩
 |some ad=>
  obtain⟨g,rfl,hg⟩: ∃g,ad=⟨g,0,none⟩/\w.heap.size<=g:=by
   rcases ho.out.2 with⟨e,_⟩|⟨g,cap,cur,e,hg,_⟩
   ·cases e
   ·injection e with e1
    injection e1 with e2
    exact⟨g,e2,hg⟩
  have hgl:g<w1.heap.size:=by
   rcases ho.out.2 with⟨e,_⟩|⟨g',cap,cur,e,_,hb,_⟩
   ·cases e
   ·cases e
    exact(Array.getElem?_eq_some_iff.1 hb).1
  have HN:=zq (otsort_any ss g 0 c w1 (holds_of_own ho.out) hgl (HS.out ss HSS.out));have HG:=zq hg;clear ho hgl hg;go_wp2_with fail;refine HN.out.mono ?_;rintro e w2 ⟨rfl,l,hp,hso,hh,hgw⟩;have HP:=zq hp;have HSO:=zq hso;have HH:=zq hh;have HB2:=zq (qaj HB.out hgw HB.out.size HG.out);have HLE:Hid (ss.length=l.length):=zq hp.length_eq.symm;clear HN hp hso hh hgw;go_wp2;go_ret
  refine⟨some ⟨g,0,none⟩,c,l,by rw[<-HLE.out];rfl,zq (slo_of_holds HH.out),zq ⟨ss,HSS.out,HP.out⟩,HSO,HB2.out⟩
theorem befS_irr {x y:St3}(h:befS x y=true):x≠y/\befS y x=false:=by
 rw[qdO];rw[bef_iff]at h;obtain⟨a,b⟩:=x;obtain⟨c,d⟩:=y;dsimp only at*;refine⟨fun e=>?_,?_⟩
 ·cases e
  cases b<;>simp at h
 ·cases b<;>cases d<;>simp at* <;>omega
theorem befS_anti {x y:St3}(h1:befS x y=false)(h2:befS y x=false):x=y:=by
 rw[qdO]at*;obtain⟨a,b⟩:=x;obtain⟨c,d⟩:=y;dsimp only at*
 cases b<;>cases d<;>simp at* <;>omega
theorem after_up (t:Tp3)(s:St3):(qau t s).Pairwise (fun x y=>befS x y=true):=by
 unfold qau;split
 ·rw[List.pairwise_flatMap]
  refine⟨fun i _=>?_,?_⟩
  ·unfold qbK
   split<;>split<;>simp[befS]
  ·refine(List.pairwise_lt_range).imp ?_
   intro a b hab x hx y hy;have h1:=(qd9.1 hx).1;have h2:=(qd9.1 hy).1;rw[bef_iff,h1,h2];exact .inl (by omega)
 ·exact List.Pairwise.nil
theorem after_is {t:Tp3}{s:St3}{l ss:List St3}{D:DataW Unit}(hl:t.edges.length<=100)(hD:SetM D (folB t s))(hS:ss.Nodup/\ ∀x,x∈ss↔(wfS x/\has D (stK x)=true))(hp:l.Perm ss)(hs:l.Pairwise fun x y=>befS y x=false):l=qau t s:=by
 have hu:=after_up t s;have hn:(qau t s).Nodup:=hu.imp fun h=>(befS_irr h).1;refine List.Perm.eq_of_pairwise (le:=fun x y=>befS y x=false) (fun x y _ _ h1 h2=>befS_anti h2 h1) hs (hu.imp fun h=>(befS_irr h).2) ?_;refine hp.trans ((List.perm_ext_iff_of_nodup hS.1 hn).2 fun x=>?_);rw[hS.2 x,<-qfh]
 constructor
 ·rintro⟨h1,h2⟩
  rwa [hD.mem x h1]at h2
 ·intro h
  have hw:wfS x:=wfS_of (qbd.1 (qfh.1 h)).2.1 hl;exact⟨hw,by rw[hD.mem x hw];exact h⟩
theorem qf6 (t:Tp3)(s:St3)(h:t.edges.length<=100):(qau t s).length<=1048576:=by
 have h1: ∀n:Nat,((List.range n).flatMap (qbK t s)).length<=2*n:=by
  intro n
  induction n with
  |zero=>simp
  |succ n ih=>
   have h2:(qbK t s n).length<=2:=by
    unfold qbK;rw[List.length_append];have h3: ∀(p:Prop) [Decidable p] (x:St3),(if p then[x]else[]).length<=1:=by
     intro p _ x;split<;>simp
    have:=h3 (mayT t s ⟨n,false⟩=true) ⟨n,false⟩;have:=h3 (mayT t s ⟨n,true⟩=true) ⟨n,true⟩;omega
   rw[List.range_succ,List.flatMap_append,List.length_append];simp only[List.flatMap_cons,List.flatMap_nil,List.append_nil];omega
 unfold qau;split
 ·have:=h1 t.edges.length
  omega
 ·simp
theorem after_len (t:Tp3)(s:St3){ss:List St3}{D:DataW Unit}(hl:t.edges.length<=100)(hD:SetM D (folB t s))(hS:ss.Nodup/\ ∀x,x∈ss↔(wfS x/\has D (stK x)=true)):ss.length<=1048576:=by
 have hn:(qau t s).Nodup:=(after_up t s).imp fun h=>(befS_irr h).1;have hp:ss.Perm (qau t s):=(List.perm_ext_iff_of_nodup hS.1 hn).2 fun x=>by
  rw[hS.2 x,<-qfh]
  constructor
  ·rintro⟨h1,h2⟩
   rwa [hD.mem x h1]at h2
  ·intro h
   have hw:wfS x:=wfS_of (qbd.1 (qfh.1 h)).2.1 hl;exact⟨hw,by rw[hD.mem x hw];exact h⟩
 have:=qf6 t s hl;have:=hp.length_eq;omega
theorem qdf (t:Tp3)(a:TpA)(s:St3)(w:World)(ht:TopR w t a)(hl:qaH t=true):Calls Tryz.prog 37 #[.agg (tpC t a),.agg (stA13 s)] w fun e w'=> ∃A c,e= .returned (.slice A (qau t s).length c)/\SlO stC 2 w' A (qau t s).length c (qau t s)/\Below w.heap.size w w':=by
 have hn:=qax hl;obtain⟨wa,hwa,hbwa,HWA,HBWA,h0,h1⟩:=bx2Z w 27 (tpC t a) 30 (stA13 s);have H0:=zq h0;have H1:=zq h1;have HL:=zq hn.1;have HJ:=zq hn.2.1;have HF:=zq (otfol_any t a s wa (ht.under hbwa) hn.1 (by omega));clear hwa hbwa h0 h1 ht hn;go_enter Tryz.func37,Tryz.ntmps37;go_upto_region 1 with fail;rw[HWA.out];clear HWA;go_wp2_with (first|(with_reducible refine ldZ 5 H0.out ?_)|(with_reducible refine ldZ 6 H1.out ?_));refine HF.out.mono ?_;rintro e w1 ⟨bm,n,D,rfl,hn,HO,HD,_,hb1⟩;have HB1:=tB HBWA hb1;have HNN:=zq hn;clear hb1 hn HF H0 H1 HBWA;go_wp2_with fail;refine(otkeys_any _ _).mono ?_;rintro e w2 ⟨rfl,rfl⟩;obtain⟨w2,hw2⟩:=geZ (w1.alloc (.cells #[.map (some bm)] 143));rw[hw2];have hb2:Below w1.heap.size w1 w2:=by rw[<-hw2];exact bA
 have hm2:Has w2 w1.heap.size 143 #[.map (some bm)]:=by rw[<-hw2];exact Has.made _ _ _
 have HB2:=tB HB1 hb2;have HSEQ:=zq (otkeys_stops 3 (by omega) w1.heap.size bm n D w2 hm2 (HO.out.kept (qaK hb2 (Nat.le_refl _) none) (by simp)));have HSO:=zq (otsorted_any 169 #[.pointer (some ⟨w1.heap.size,0,none⟩)] _ (Go.Maps.size D) (by have h1:=HO.out.size_le;have h2:=HNN.out;have h3:=HJ.out;omega) (fun ss h=>after_len t s HL.out HD.out h) w2 (enters_of Tryz.func169 (by kernel_rfl) rfl) HSEQ.out);clear hw2 hb2 hm2 HSEQ;go_wp2_with fail;refine HSO.out.mono ?_;rintro e w3 ⟨A,c,l,rfl,HSL,HPE,HPW,hb3⟩;have HB3:=tB HB2 hb3;obtain rfl:l=qau t s:=by
  obtain⟨ss,hS,hp⟩:=HPE.out;exact after_is HL.out HD.out hS hp HPW.out
 clear hb3 HSO;go_wp2;go_ret
 exact⟨A,c,rfl,HSL.out,HB3.out⟩
end
section
open Go.RowKit
open Go.Great
theorem opl_walk0 (t:Tp3)(a:TpA)(p:Ps3)(n:Int)(w:World)(ht:TopR w t a)(hlt:qaH t=true)(hcj:t.joints.length<=a.cj):
  Calls Tryz.prog 73 #[.agg (tpC t a),.agg (psA p),.int .i64 n] w fun e w'=>e= .returned (.tuple #[.agg (psA (walkE t p n).1),.int .i64 (walkE t p n).2])/\Below w.heap.size w w':=by
 obtain⟨rP,hrP⟩: ∃r,(walkE t p n).1=r:=⟨_,rfl⟩
 obtain⟨rE,hrE⟩: ∃r,(walkE t p n).2=r:=⟨_,rfl⟩
 have HWE:=zq (show walkE t p n=(rP,rE)from Prod.ext hrP hrE);rw[hrP,hrE];clear hrP hrE;have HLT:=zq hlt;have HNN:=zq (qax hlt);have HCJ:=zq hcj;clear hlt hcj;obtain⟨wa,hwa,hbwa,HWA,HBWA,h0,h1,h2⟩:=bx3Z w 27 (tpC t a) 51 (psA p) 51 #[.int .i64 0,.int .i64 0,.bool false];have HT:=zq (fun W (hW:Below w.heap.size w W)=>ht.under hW);have HG0:=zq h0;have HG1:=zq h1;have HG2:=zq h2;obtain⟨b,hb⟩:=geZ (qa4 t p);have HRB:=zq hb;obtain⟨bn,hbn⟩: ∃b,qas n 0 1099511627776=b:=⟨_,rfl⟩
 have HBN:=zq hbn;clear hwa hbwa h0 h1 h2 hb hbn ht;go_enter Tryz.func73,Tryz.ntmps73;go_upto_region 1 with fail;rw[HWA.out];clear HWA;go_step3
 go_wp2_with (first|(with_reducible refine ldZ 13 HG0.out ?_)|(with_reducible refine ldZ 14 HG1.out ?_));refine(opl_right t a p wa (HT.out wa HBWA.out) HLT.out HCJ.out).mono ?_;rw[HRB.out];rintro e w1 ⟨rfl,hb⟩;have HB:=HBWA;clear HBWA;have HB:=tB HB hb;have HG0:=uH HG0 hb;have HG1:=uH HG1 hb;have HG2:=uH HG2 hb;clear hb
 cases b with
 |false=>
  have HR:=zq (qaa HG2.out #[.int .i64 0,.int .i64 0,.bool false]);have HBF:=zq (qab (g:=w.heap.size+1+1) HB.out (by omega) #[.int .i64 0,.int .i64 0,.bool false]);go_wp2_with (with_reducible refine stZ #[.int .i64 0,.int .i64 0,.bool false] HG2.out ?_)
  try rw[Exit.noGoto_ret]
  refine rtZ HR.out ?_;obtain⟨rfl,rfl⟩:=Prod.mk.inj (show(rP,rE)=(zeroP,1)from HWE.out.symm.trans (qdk (fun h_=>by have h2_:=h_.1;rw[HRB.out]at h2_;cases h2_)));exact⟨rfl,HBF.out⟩
 |true=>
  go_wp2_with fail;refine(qeQ n 0 1099511627776 _).mono ?_;rw[HBN.out];rintro e w2 ⟨rfl,rfl⟩
  cases bn with
  |false=>
   have HR:=zq (qaa HG2.out #[.int .i64 0,.int .i64 0,.bool false]);have HBF:=zq (qab (g:=w.heap.size+1+1) HB.out (by omega) #[.int .i64 0,.int .i64 0,.bool false]);go_wp2_with (with_reducible refine stZ #[.int .i64 0,.int .i64 0,.bool false] HG2.out ?_)
   try rw[Exit.noGoto_ret]
   refine rtZ HR.out ?_;obtain⟨rfl,rfl⟩:=Prod.mk.inj (show(rP,rE)=(zeroP,1)from HWE.out.symm.trans (qdk (fun h_=>by have h2_:=HBN.out;unfold qas at h2_;have h3_:=h_.2;simp only[Bool.and_eq_false_iff,decide_eq_false_iff_not]at h2_;omega)));exact⟨rfl,HBF.out⟩
  |true=>
   have HN:=zq (show 0<=n/\n<=1099511627776 from by have h2_:=HBN.out;unfold qas at h2_;simp only[Bool.and_eq_true,decide_eq_true_eq]at h2_;exact h2_);have HWF:=zq ((walkE_ok ⟨HRB.out,HN.out⟩).symm.trans HWE.out);have HRR:=zq (qaO.1 HRB.out);have HED:=zq (qaD HRR.out.1).1;have HON:=zq HRR.out.2;clear HWE HRB HRR HBN;obtain⟨d,hd⟩: ∃x,distP t p=x:=⟨_,rfl⟩
   have HD:=zq hd;have HDO:=zq (show 0<=d/\d<=1000000 from by rw[<-hd];exact dist_ok HED.out HON.out);clear hd;have hwr1:IntKind.i64.wrap (d+n)=d+n:=by have h1_:=HN.out;have h2_:=HDO.out;rw[IntKind.wrap_i64];omega
   obtain⟨wv,hwv⟩: ∃wv,wv=w2:=⟨_,rfl⟩
   subst hwv;go_upto_region 3 with fail;go_cut [8,9] (fun s8 s9 wx=> ∃gs:Nat,s8= .pointer (some ⟨gs,0,none⟩)/\s9= .int .i64 (d+n)/\Hid (Has wx gs 30 (stA13 (stepP p)))/\Hid (Has wx (w.heap.size) 27 (tpC t a))/\Hid (Has wx (w.heap.size+1+1) 51 #[.int .i64 0,.int .i64 0,.bool false])/\Hid (Below w.heap.size w wx)/\Hid (w.heap.size+1+1<gs))
   case first=>
    refine wp_region_held_drew (S:=(fun W_=>Has W_ (w.heap.size) 27 (tpC t a)/\Has W_ (w.heap.size+1) 51 (psA p)/\Has W_ (w.heap.size+1+1) 51 #[.int .i64 0,.int .i64 0,.bool false]/\Below w.heap.size w W_)) (by kernel_rfl) ?_ (fun hHeld=>?_)
    ·exact⟨HG0.out.draw,HG1.out.draw,HG2.out.draw,qaf HB.out⟩
    refine tlZ 0 23 (w.heap.size+1) (psA p) (fun _ ⟨_,h_,_,_⟩=>h_) (h:=?_);simp only[lyZ];refine tlZ 2 25 w.heap.size (tpC t a) (fun _ ⟨h_,_,_,_⟩=>h_) (h:=?_);simp only[lyZ];refine tlZ 3 26 (w.heap.size+1) (psA p) (fun _ ⟨_,h_,_,_⟩=>h_) (h:=?_);simp only[lyZ];refine tkZ 5 28 (h:=?_);simp only[lyZ];refine rdZ [1,7] ?_;refine acZ (some 24) (fun K hK=>?_) ?_
    ·go_simp
     obtain⟨s0,s1,s2,s3⟩:=hHeld;refine(qes p _).mono ?_;rintro e_ v1 ⟨rfl,hbs⟩;go_wp2_with fail;refine hK.out _ _ ?_ (fun hHeld=>?_)
     ·exact⟨s0.u hbs,s1.u hbs,s2.u hbs,bu s3 hbs⟩
     clear hK K s0 s1 s2 s3
     try simp only[lyZ]
     refine rdZ [4,7] ?_;refine acZ (some 27) (fun K hK=>?_) ?_
     ·go_simp
      obtain⟨s0,s1,s2,s3⟩:=hHeld;refine(qdw t a p _ (HT.out _ s3) HON.out HED.out).mono ?_;rw[HD.out];rintro e_ v2 ⟨rfl,hbs⟩;go_wp2_with fail;refine hK.out _ _ ?_ (fun hHeld=>?_)
      ·exact⟨s0.u hbs,s1.u hbs,s2.u hbs,bu s3 hbs⟩
      clear hK K s0 s1 s2 s3
      try simp only[lyZ]
      refine tkZ 6 29 (h:=?_);simp only[lyZ];refine rdZ [7] ?_;refine acZ (some 8) (fun K hK=>?_) ?_
      ·go_simp
       obtain⟨s0,s1,s2,s3⟩:=hHeld;obtain⟨gs,hgs⟩:=geZ (v2.heap.size);have hgl:w.heap.size<gs:=by rw[<-hgs];exact s0.lt
       have hgl1:w.heap.size+1<gs:=by rw[<-hgs];exact s1.lt
       have hgl2:w.heap.size+1+1<gs:=by rw[<-hgs];exact s2.lt
       have hgsle:v2.heap.size<=gs:=Nat.le_of_eq hgs;rw[hgs];refine hK.out _ _ ?_ (fun hHeld=>?_)
       ·exact⟨s0.beside _,s1.beside _,s2.beside _,qan s3 _⟩
       refine qaw (T:=(fun W_=>Has W_ (w.heap.size) 27 (tpC t a)/\Has W_ (w.heap.size+1) 51 (psA p)/\Has W_ (w.heap.size+1+1) 51 #[.int .i64 0,.int .i64 0,.bool false]/\Below w.heap.size w W_/\(∃o_:Array Value,Has W_ (gs) 30 o_/\o_.size=2))) (fun _ ⟨s0,s1,s2,s3,s4⟩=>⟨s0,s1,s2,s3⟩) ?_;have hHeld2:(fun W_=>Has W_ (w.heap.size) 27 (tpC t a)/\Has W_ (w.heap.size+1) 51 (psA p)/\Has W_ (w.heap.size+1+1) 51 #[.int .i64 0,.int .i64 0,.bool false]/\Below w.heap.size w W_/\(∃o_:Array Value,Has W_ (gs) 30 o_/\o_.size=2)) _:=⟨s0.beside (.cells #[.int .i64 0,.bool false] 30),s1.beside (.cells #[.int .i64 0,.bool false] 30),s2.beside (.cells #[.int .i64 0,.bool false] 30),qan s3 (.cells #[.int .i64 0,.bool false] 30),⟨#[.int .i64 0,.bool false],(by rw[<-hgs];exact Has.made _ _ _),by kernel_rfl⟩⟩
       clear hHeld;have hHeld:=hHeld2;clear hHeld2 hK K hgs s0 s1 s2 s3
       try simp only[lyZ]
       refine rdZ [8] ?_;refine acZ none (fun K hK=>?_) ?_
       ·rw[if_pos (by rfl)]
        obtain⟨s0,s1,s2,s3,s4⟩:=hHeld;obtain⟨o_,h_,e_⟩:=s4;refine wp_store_row 30 _ _ rfl (gs) (stA13 (stepP p)) (by rfl) (by rfl) 30 o_ h_.raw11 (by kernel_rfl) e_ (by kernel_rfl) ?_;refine hK.out _ _ ?_ (fun hHeld=>?_)
        ·exact⟨qad s0 (by omega) _,qad s1 (by omega) _,qad s2 (by omega) _,qab s3 (by omega) _,⟨_,qaa h_ (stA13 (stepP p)),by kernel_rfl⟩⟩
        refine qaw (T:=(fun W_=>Has W_ (w.heap.size) 27 (tpC t a)/\Has W_ (w.heap.size+1) 51 (psA p)/\Has W_ (w.heap.size+1+1) 51 #[.int .i64 0,.int .i64 0,.bool false]/\Below w.heap.size w W_/\Has W_ (gs) 30 (stA13 (stepP p)))) (fun _ ⟨s0,s1,s2,s3,s4⟩=>⟨s0,s1,s2,s3,⟨_,s4,by kernel_rfl⟩⟩) ?_;have hHeld2:(fun W_=>Has W_ (w.heap.size) 27 (tpC t a)/\Has W_ (w.heap.size+1) 51 (psA p)/\Has W_ (w.heap.size+1+1) 51 #[.int .i64 0,.int .i64 0,.bool false]/\Below w.heap.size w W_/\Has W_ (gs) 30 (stA13 (stepP p))) _:=⟨qad s0 (by omega) _,qad s1 (by omega) _,qad s2 (by omega) _,qab s3 (by omega) _,qaa h_ (stA13 (stepP p))⟩
        clear hHeld;have hHeld:=hHeld2;clear hHeld2 hK K h_ e_ s0 s1 s2 s3
        try simp only[Act.put]
        refine tkZ 9 9 (h:=?_);simp only[lyZ];refine dnZ ?_;go_wp2_with fail;go_meet
        exact⟨gs,rfl,rfl,zq hHeld.2.2.2.2,zq hHeld.1,zq hHeld.2.2.1,zq hHeld.2.2.2.1,zq hgl2⟩
       exact AllReadyH.nil
      exact AllReadyH.nil
     refine acZ (some 8) (fun K hK=>?_) ?_
     ·go_simp
      obtain⟨s0,s1,s2,s3⟩:=hHeld;obtain⟨gs,hgs⟩:=geZ (v1.heap.size);have hgl:w.heap.size<gs:=by rw[<-hgs];exact s0.lt
      have hgl1:w.heap.size+1<gs:=by rw[<-hgs];exact s1.lt
      have hgl2:w.heap.size+1+1<gs:=by rw[<-hgs];exact s2.lt
      have hgsle:v1.heap.size<=gs:=Nat.le_of_eq hgs;rw[hgs];refine hK.out _ _ ?_ (fun hHeld=>?_)
      ·exact⟨s0.beside _,s1.beside _,s2.beside _,qan s3 _⟩
      refine qaw (T:=(fun W_=>Has W_ (w.heap.size) 27 (tpC t a)/\Has W_ (w.heap.size+1) 51 (psA p)/\Has W_ (w.heap.size+1+1) 51 #[.int .i64 0,.int .i64 0,.bool false]/\Below w.heap.size w W_/\(∃o_:Array Value,Has W_ (gs) 30 o_/\o_.size=2))) (fun _ ⟨s0,s1,s2,s3,s4⟩=>⟨s0,s1,s2,s3⟩) ?_;have hHeld2:(fun W_=>Has W_ (w.heap.size) 27 (tpC t a)/\Has W_ (w.heap.size+1) 51 (psA p)/\Has W_ (w.heap.size+1+1) 51 #[.int .i64 0,.int .i64 0,.bool false]/\Below w.heap.size w W_/\(∃o_:Array Value,Has W_ (gs) 30 o_/\o_.size=2)) _:=⟨s0.beside (.cells #[.int .i64 0,.bool false] 30),s1.beside (.cells #[.int .i64 0,.bool false] 30),s2.beside (.cells #[.int .i64 0,.bool false] 30),qan s3 (.cells #[.int .i64 0,.bool false] 30),⟨#[.int .i64 0,.bool false],(by rw[<-hgs];exact Has.made _ _ _),by kernel_rfl⟩⟩
      clear hHeld;have hHeld:=hHeld2;clear hHeld2 hK K hgs s0 s1 s2 s3
      try simp only[lyZ]
      refine rdZ [4] ?_;refine acZ (some 27) (fun K hK=>?_) ?_
      ·go_simp
       obtain⟨s0,s1,s2,s3,s4⟩:=hHeld;refine(qdw t a p _ (HT.out _ s3) HON.out HED.out).mono ?_;rw[HD.out];rintro e_ v2 ⟨rfl,hbs⟩;go_wp2_with fail;refine hK.out _ _ ?_ (fun hHeld=>?_)
       ·exact⟨s0.u hbs,s1.u hbs,s2.u hbs,bu s3 hbs,(let ⟨o_,h_,e_⟩:=s4;⟨o_,h_.u hbs,e_⟩)⟩
       clear hK K s0 s1 s2 s3 s4
       try simp only[lyZ]
       refine tkZ 6 29 (h:=?_);simp only[lyZ];refine rdZ [8] ?_;refine acZ none (fun K hK=>?_) ?_
       ·rw[if_pos (by rfl)]
        obtain⟨s0,s1,s2,s3,s4⟩:=hHeld;obtain⟨o_,h_,e_⟩:=s4;refine wp_store_row 30 _ _ rfl (gs) (stA13 (stepP p)) (by rfl) (by rfl) 30 o_ h_.raw11 (by kernel_rfl) e_ (by kernel_rfl) ?_;refine hK.out _ _ ?_ (fun hHeld=>?_)
        ·exact⟨qad s0 (by omega) _,qad s1 (by omega) _,qad s2 (by omega) _,qab s3 (by omega) _,⟨_,qaa h_ (stA13 (stepP p)),by kernel_rfl⟩⟩
        refine qaw (T:=(fun W_=>Has W_ (w.heap.size) 27 (tpC t a)/\Has W_ (w.heap.size+1) 51 (psA p)/\Has W_ (w.heap.size+1+1) 51 #[.int .i64 0,.int .i64 0,.bool false]/\Below w.heap.size w W_/\Has W_ (gs) 30 (stA13 (stepP p)))) (fun _ ⟨s0,s1,s2,s3,s4⟩=>⟨s0,s1,s2,s3,⟨_,s4,by kernel_rfl⟩⟩) ?_;have hHeld2:(fun W_=>Has W_ (w.heap.size) 27 (tpC t a)/\Has W_ (w.heap.size+1) 51 (psA p)/\Has W_ (w.heap.size+1+1) 51 #[.int .i64 0,.int .i64 0,.bool false]/\Below w.heap.size w W_/\Has W_ (gs) 30 (stA13 (stepP p))) _:=⟨qad s0 (by omega) _,qad s1 (by omega) _,qad s2 (by omega) _,qab s3 (by omega) _,qaa h_ (stA13 (stepP p))⟩
        clear hHeld;have hHeld:=hHeld2;clear hHeld2 hK K h_ e_ s0 s1 s2 s3
        try simp only[Act.put]
        refine tkZ 9 9 (h:=?_);simp only[lyZ];refine dnZ ?_;go_wp2_with fail;go_meet
        exact⟨gs,rfl,rfl,zq hHeld.2.2.2.2,zq hHeld.1,zq hHeld.2.2.1,zq hHeld.2.2.2.1,zq hgl2⟩
       exact AllReadyH.nil
      exact AllReadyH.nil
     exact AllReadyH.nil
    refine acZ (some 8) (fun K hK=>?_) ?_
    ·go_simp
     obtain⟨s0,s1,s2,s3⟩:=hHeld;obtain⟨gs,hgs⟩:=geZ (wv.heap.size);have hgl:w.heap.size<gs:=by rw[<-hgs];exact s0.lt
     have hgl1:w.heap.size+1<gs:=by rw[<-hgs];exact s1.lt
     have hgl2:w.heap.size+1+1<gs:=by rw[<-hgs];exact s2.lt
     have hgsle:wv.heap.size<=gs:=Nat.le_of_eq hgs;rw[hgs];refine hK.out _ _ ?_ (fun hHeld=>?_)
     ·exact⟨s0.beside _,s1.beside _,s2.beside _,qan s3 _⟩
     refine qaw (T:=(fun W_=>Has W_ (w.heap.size) 27 (tpC t a)/\Has W_ (w.heap.size+1) 51 (psA p)/\Has W_ (w.heap.size+1+1) 51 #[.int .i64 0,.int .i64 0,.bool false]/\Below w.heap.size w W_/\(∃o_:Array Value,Has W_ (gs) 30 o_/\o_.size=2))) (fun _ ⟨s0,s1,s2,s3,s4⟩=>⟨s0,s1,s2,s3⟩) ?_;have hHeld2:(fun W_=>Has W_ (w.heap.size) 27 (tpC t a)/\Has W_ (w.heap.size+1) 51 (psA p)/\Has W_ (w.heap.size+1+1) 51 #[.int .i64 0,.int .i64 0,.bool false]/\Below w.heap.size w W_/\(∃o_:Array Value,Has W_ (gs) 30 o_/\o_.size=2)) _:=⟨s0.beside (.cells #[.int .i64 0,.bool false] 30),s1.beside (.cells #[.int .i64 0,.bool false] 30),s2.beside (.cells #[.int .i64 0,.bool false] 30),qan s3 (.cells #[.int .i64 0,.bool false] 30),⟨#[.int .i64 0,.bool false],(by rw[<-hgs];exact Has.made _ _ _),by kernel_rfl⟩⟩
     clear hHeld;have hHeld:=hHeld2;clear hHeld2 hK K hgs s0 s1 s2 s3
     try simp only[lyZ]
     refine rdZ [1] ?_;refine acZ (some 24) (fun K hK=>?_) ?_
     ·go_simp
      obtain⟨s0,s1,s2,s3,s4⟩:=hHeld;refine(qes p _).mono ?_;rintro e_ v1 ⟨rfl,hbs⟩;go_wp2_with fail;refine hK.out _ _ ?_ (fun hHeld=>?_)
      ·exact⟨s0.u hbs,s1.u hbs,s2.u hbs,bu s3 hbs,(let ⟨o_,h_,e_⟩:=s4;⟨o_,h_.u hbs,e_⟩)⟩
      clear hK K s0 s1 s2 s3 s4
      try simp only[lyZ]
      refine rdZ [4] ?_;refine acZ (some 27) (fun K hK=>?_) ?_
      ·go_simp
       obtain⟨s0,s1,s2,s3,s4⟩:=hHeld;refine(qdw t a p _ (HT.out _ s3) HON.out HED.out).mono ?_;rw[HD.out];rintro e_ v2 ⟨rfl,hbs⟩;go_wp2_with fail;refine hK.out _ _ ?_ (fun hHeld=>?_)
       ·exact⟨s0.u hbs,s1.u hbs,s2.u hbs,bu s3 hbs,(let ⟨o_,h_,e_⟩:=s4;⟨o_,h_.u hbs,e_⟩)⟩
       clear hK K s0 s1 s2 s3 s4
       try simp only[lyZ]
       refine tkZ 6 29 (h:=?_);simp only[lyZ];refine rdZ [8] ?_;refine acZ none (fun K hK=>?_) ?_
       ·rw[if_pos (by rfl)]
        obtain⟨s0,s1,s2,s3,s4⟩:=hHeld;obtain⟨o_,h_,e_⟩:=s4;refine wp_store_row 30 _ _ rfl (gs) (stA13 (stepP p)) (by rfl) (by rfl) 30 o_ h_.raw11 (by kernel_rfl) e_ (by kernel_rfl) ?_;refine hK.out _ _ ?_ (fun hHeld=>?_)
        ·exact⟨qad s0 (by omega) _,qad s1 (by omega) _,qad s2 (by omega) _,qab s3 (by omega) _,⟨_,qaa h_ (stA13 (stepP p)),by kernel_rfl⟩⟩
        refine qaw (T:=(fun W_=>Has W_ (w.heap.size) 27 (tpC t a)/\Has W_ (w.heap.size+1) 51 (psA p)/\Has W_ (w.heap.size+1+1) 51 #[.int .i64 0,.int .i64 0,.bool false]/\Below w.heap.size w W_/\Has W_ (gs) 30 (stA13 (stepP p)))) (fun _ ⟨s0,s1,s2,s3,s4⟩=>⟨s0,s1,s2,s3,⟨_,s4,by kernel_rfl⟩⟩) ?_;have hHeld2:(fun W_=>Has W_ (w.heap.size) 27 (tpC t a)/\Has W_ (w.heap.size+1) 51 (psA p)/\Has W_ (w.heap.size+1+1) 51 #[.int .i64 0,.int .i64 0,.bool false]/\Below w.heap.size w W_/\Has W_ (gs) 30 (stA13 (stepP p))) _:=⟨qad s0 (by omega) _,qad s1 (by omega) _,qad s2 (by omega) _,qab s3 (by omega) _,qaa h_ (stA13 (stepP p))⟩
        clear hHeld;have hHeld:=hHeld2;clear hHeld2 hK K h_ e_ s0 s1 s2 s3
        try simp only[Act.put]
        refine tkZ 9 9 (h:=?_);simp only[lyZ];refine dnZ ?_;go_wp2_with fail;go_meet
        exact⟨gs,rfl,rfl,zq hHeld.2.2.2.2,zq hHeld.1,zq hHeld.2.2.1,zq hHeld.2.2.2.1,zq hgl2⟩
       exact AllReadyH.nil
      exact AllReadyH.nil
     exact AllReadyH.nil
    exact AllReadyH.nil
   clear HB HG0 HG1 HG2 hwr1;obtain⟨gs,rfl,rfl,HGS,HG0,HG2,HB,HGL⟩:=hcut;go_wp2;go_step3
   go_wp2;go_loopg [9,10] 41 (fun kk v9 v10 wl=> ∃(l:Nat) (m rr:Int) (q:Ps3),l<=40/\41-l<=kk/\v10= .int .i64 l/\v9= .int .i64 rr/\Hid (rr=distP t q+m)/\Hid (0<=m/\m<=1099511627776)/\Hid (onB t q=true)/\Hid (walkF t (40-l) q m=(rP,rE))/\Hid (Below w.heap.size w wl)/\Hid (Has wl (w.heap.size) 27 (tpC t a))/\Hid (Has wl gs 30 (stA13 (stepP q)))/\Hid (Has wl (w.heap.size+1+1) 51 #[.int .i64 0,.int .i64 0,.bool false]))
   case atStart=>exact⟨0,n,d+n,p,by omega,by omega,rfl,rfl,zq (by rw[HD.out]),HN,HON,HWF,HB,HG0,HGS,HG2⟩
   clear HWF HN HON HB HG0 HGS HG2 HD HDO;obtain⟨l,m,rr,q,hl,hlk,rfl,rfl,HRRR,HM,HON,HWF,HB,HG0,HGS,HG2⟩:=hrel;obtain⟨ah,hah⟩: ∃x,qaB t q=x:=⟨_,rfl⟩
   have HAH:=zq hah;have HAB:=zq (show 0<=ah/\ah<=1000000 from by rw[<-hah];exact qcP HED.out HON.out);have hqe:=(qbh.1 HON.out).1;have HQE:=zq (show edgeB t (stepP q).edge=true from hqe);have hqe2:=hqe;unfold edgeB at hqe2;simp only[Bool.and_eq_true,decide_eq_true_eq]at hqe2;obtain⟨ke,hke⟩: ∃k:Nat,q.edge=k:=⟨q.edge.toNat,by omega⟩
   have hkl:ke<t.edges.length:=by omega
   obtain⟨be,oe,hae,-⟩:=(HT.out wr HB.out).e.edge hkl;obtain⟨lq,hlq⟩: ∃x,t.edges.getD ke 0=x:=⟨_,rfl⟩
   have HLQ:=zq (show qat t q.edge=lq from by rw[hke];exact hlq);have HLB:=zq (show 1<=lq/\lq<=1000000 from by rw[<-HLQ.out];exact qaT HED.out (s:=stepP q) hqe);have HRA:=zq (show rr=lq-ah+m from by rw[HRRR.out,qga,HLQ.out,hah]);obtain⟨ne,hne⟩: ∃x,t.edges.length=x:=⟨_,rfl⟩
   have HCE:Hid (∀W,Has W (w.heap.size) 27 (tpC t a)->W.cell? ⟨w.heap.size,0,none⟩=some (.slice (some ⟨be,oe,none⟩) ne a.ce)):=zq fun W hW=>by
    have c_:W.cell? ⟨w.heap.size,0,none⟩=some (.slice a.ae t.edges.length a.ce):=hW.cell 0;rw[hae,hne]at c_;exact c_
   have HCQ:Hid (∀W,Below w.heap.size w W->W.cell? ⟨be,oe+ke,none⟩=some (.int .i64 lq)):=zq fun W hW=>by
    obtain⟨b_,o_,e_,h_⟩:=(HT.out W hW).e.edge hkl;rw[hae]at e_;injection e_ with e_
    injection e_ with e1_ e2_ _
    subst e1_ e2_;rw[hlq]at h_;exact h_
   have HKE:=zq hke;rw[hne]at hkl;have y0:(0:Int)<=ke:=by omega
   have y1:(ke:Int)<ne:=by omega
   clear hah hqe hqe2 hke hkl hae hlq hne;obtain⟨wv2,hwv2⟩: ∃wv,wv=wr:=⟨_,rfl⟩
   subst hwv2;obtain⟨k1,hk1⟩: ∃k1,k1=gk:=⟨_,rfl⟩
   subst hk1;go_upto_region 6 with fail;refine wp_region_held_drew (S:=(fun W_=>Has W_ (w.heap.size) 27 (tpC t a)/\Has W_ (gs) 30 (stA13 (stepP q))/\Has W_ (w.heap.size+1+1) 51 #[.int .i64 0,.int .i64 0,.bool false]/\Below w.heap.size w W_)) (by kernel_rfl) ?_ (fun hHeld=>?_)
   ·exact⟨HG0.out.draw,HGS.out.draw,HG2.out.draw,qaf HB.out⟩
   refine tkZ 0 32 (h:=?_);simp only[lyZ];refine tqZ 1 33 (fun w_ hSw=>(show w_.cell? ⟨w.heap.size,0,none⟩=some (.slice (some ⟨be,oe,none⟩) ne a.ce:Value)from HCE.out w_ hSw.1)) (h:=?_);simp only[lyZ];refine tkZ 2 34 (h:=?_);simp only[lyZ];refine tqZ 3 35 (fun w_ hSw=>(show w_.cell? ⟨gs,0,none⟩=some (.int .i64 (ke:Int):Value)from by have h_:=hSw.2.1.cell 0;rw[<-HKE.out];exact h_)) (h:=?_);simp only[lyZ];refine tkZ 4 36 (h:=?_);simp only[lyZ];refine tqZ 5 37 (fun w_ hSw=>HCQ.out w_ hSw.2.2.2) (h:=?_);simp only[lyZ];refine tlZ 6 38 w.heap.size (tpC t a) (fun _ ⟨h_,_,_,_⟩=>h_) (h:=?_);simp only[lyZ];refine tlZ 7 39 gs (stA13 (stepP q)) (fun _ ⟨_,h_,_,_⟩=>h_) (h:=?_);simp only[lyZ];refine rdZ [8] ?_;refine acZ (some 40) (fun K hK=>?_) ?_
   ·go_simp
    obtain⟨s0,s1,s2,s3⟩:=hHeld;refine(qdf t a (stepP q) _ (HT.out _ s3) HLT.out).mono ?_;rintro e_ v1 ⟨A2,c2,rfl,hs_,hbs⟩;have HSL:=zq hs_;clear hs_;go_wp2_with fail;refine hK.out _ _ ?_ (fun hHeld=>?_)
    ·exact⟨s0.u hbs,s1.u hbs,s2.u hbs,bu s3 hbs⟩
    refine mr4 (fun W_=>SlO stC 2 W_ A2 ((qau t (stepP q)).length) c2 (qau t (stepP q))) ⟨s0.u hbs,s1.u hbs,s2.u hbs,bu s3 hbs,HSL.out⟩ (fun h_=>?_);clear hHeld;have hHeld:=h_;clear h_;clear hK K s0 s1 s2 s3
    try simp only[lyZ]
    refine tkZ 9 11 (h:=?_);simp only[lyZ];refine tkZ 10 12 (h:=?_);simp only[lyZ];refine dnZ ?_;have HB:=zq hHeld.2.2.2.1;have HG0:=zq hHeld.1;have HGS:=zq hHeld.2.1;have HG2:=zq hHeld.2.2.1;have HSL:=zq hHeld.2.2.2.2;clear hHeld y0 y1 HCE HCQ;obtain⟨w3,hw3⟩: ∃w3,w3=v1:=⟨_,rfl⟩
    subst hw3;obtain⟨k,hk⟩:=geZ ((qau t (stepP q)).length);have HK:=zq hk;rw[hk]at HSL;simp only[hk];clear hk;by_cases hle:m<=ah
    ·have x1:rr<=lq:=by have:=HRA.out;omega
     have HLE:=zq hle;clear hle;go_upto_region 15 with fail;clear x1 hl hlk;go_wp2_with (first|(with_reducible refine ldZ 65 HG0.out ?_)|(with_reducible refine ldZ 66 HGS.out ?_));refine(plpos_any t a (stepP q) rr w3 (HT.out w3 HB.out) HQE.out HED.out (by have h1_:=HRA.out;have h2_:=HM.out;have h3_:=qcP HED.out HON.out;have h4_:=dist_ok HED.out HON.out;rw[HRRR.out];omega) (by have h1_:=HRA.out;have h2_:=HLE.out;have h3_:qat t (stepP q).edge=lq:=HLQ.out;rw[h3_];omega)).mono ?_;rw[show posP t (stepP q) rr=qbg q m from by rw[HRRR.out,pos_dist]];rintro e w4 ⟨rfl,hb⟩;have HB:=tB HB hb;have HG0:=uH HG0 hb;have HG2:=uH HG2 hb;clear hb;have HR:=zq (qaa HG2.out (psA (qbg q m)));have HBF:=zq (qab (g:=w.heap.size+1+1) HB.out (by omega) (psA (qbg q m)));go_wp2_with (with_reducible refine stZ (psA (qbg q m)) HG2.out ?_)
     try rw[Exit.noGoto_ret]
     refine rtZ HR.out ?_;obtain⟨rfl,rfl⟩:=Prod.mk.inj (HWF.out.symm.trans (qcM (by rw[HAH.out];exact HLE.out)));exact⟨rfl,HBF.out⟩
    have x1: ¬rr<=lq:=by have:=HRA.out;omega
    have HLE:=zq (show qaB t q<m from by rw[HAH.out];omega);clear hle;by_cases hk0:k=0
    ·have x2:(k:Int)=0:=by omega
     have HK0:=zq hk0;clear hk0;have HR:=zq (qaa HG2.out #[.int .i64 0,.int .i64 0,.bool false]);have HBF:=zq (qab (g:=w.heap.size+1+1) HB.out (by omega) #[.int .i64 0,.int .i64 0,.bool false]);go_wp2_with (with_reducible refine stZ #[.int .i64 0,.int .i64 0,.bool false] HG2.out ?_)
     try rw[Exit.noGoto_ret]
     refine rtZ HR.out ?_;obtain⟨rfl,rfl⟩:=Prod.mk.inj (show(rP,rE)=(zeroP,141)from HWF.out.symm.trans (walk_end (Int.not_le.2 HLE.out) (HK.out.trans HK0.out)));exact⟨rfl,HBF.out⟩
    have x2: ¬(k:Int)=0:=by omega
    by_cases hk1:1<k
    ·have x3:(1:Int)<k:=by omega
     have HK1:=zq hk1;clear hk1 hk0;have HR:=zq (qaa HG2.out #[.int .i64 0,.int .i64 0,.bool false]);have HBF:=zq (qab (g:=w.heap.size+1+1) HB.out (by omega) #[.int .i64 0,.int .i64 0,.bool false]);go_wp2_with (with_reducible refine stZ #[.int .i64 0,.int .i64 0,.bool false] HG2.out ?_)
     try rw[Exit.noGoto_ret]
     refine rtZ HR.out ?_;obtain⟨rfl,rfl⟩:=Prod.mk.inj (show(rP,rE)=(zeroP,140)from HWF.out.symm.trans (qeb (Int.not_le.2 HLE.out) (by rw[HK.out];exact HK1.out)));exact⟨rfl,HBF.out⟩
    have x3: ¬(1:Int)<k:=by omega
    obtain⟨s,hs⟩:=len_one (l:=qau t (stepP q)) (by rw[HK.out];omega);have HS:=zq hs;rw[hs]at HSL;clear hs;have hk2:k=1:=by omega
    clear hk0 hk1;by_cases hl4:l=40
    ·have x4:(l:Int)=40:=by omega
     have HL4:=zq hl4;clear hl4 hl hlk hk2;have HR:=zq (qaa HG2.out #[.int .i64 0,.int .i64 0,.bool false]);have HBF:=zq (qab (g:=w.heap.size+1+1) HB.out (by omega) #[.int .i64 0,.int .i64 0,.bool false]);go_wp2_with (with_reducible refine stZ #[.int .i64 0,.int .i64 0,.bool false] HG2.out ?_)
     try rw[Exit.noGoto_ret]
     refine rtZ HR.out ?_;obtain⟨rfl,rfl⟩:=Prod.mk.inj (show(rP,rE)=(zeroP,2)from HWF.out.symm.trans (by rw[show 40-l=0 by have:=HL4.out;omega];exact qfU (Int.not_le.2 HLE.out) (by rw[HS.out];rfl)));exact⟨rfl,HBF.out⟩
    have x4: ¬(l:Int)=40:=by omega
    have HL:=zq (show l<40 by omega);clear hl4;go_upto_region 14 with fail;clear x1 x2 x3 x4;have hk3:=hk2;subst hk3;clear HK;have hwr2:IntKind.i64.wrap (rr-lq)=rr-lq:=by have h1_:=HM.out;have h2_:=HAB.out;have h3_:=HRA.out;have h4_:=HLB.out;rw[IntKind.wrap_i64];omega
    have HEB:=zq (show edgeB t s.edge=true from(qbd.1 (show s∈qau t (stepP q)from by rw[HS.out];exact List.mem_singleton.2 rfl)).2.1);have hx0:([s]:List St3)[0]?=some s:=rfl;obtain⟨bk,off,hA2,e0,e1⟩:=HSL.out.step hx0;have HA2:=zq hA2;simp only[hA2];clear hA2 hx0;simp only[Nat.zero_mul,Nat.add_zero]at e0 e1;have HNS:=zq (qaa HGS.out #[.int .i64 s.edge,.bool s.rev]);have HN0:=zq (qad HG0.out (by have:=HGL.out;omega) #[.int .i64 s.edge,.bool s.rev]:Has (w3.setRow gs #[.int .i64 s.edge,.bool s.rev]) (w.heap.size) 27 (tpC t a));have HN2:=zq (qad HG2.out (by have:=HGL.out;omega) #[.int .i64 s.edge,.bool s.rev]:Has (w3.setRow gs #[.int .i64 s.edge,.bool s.rev]) (w.heap.size+1+1) 51 #[.int .i64 0,.int .i64 0,.bool false]);have HNB:=zq (qab (g:=gs) HB.out (by have:=HGL.out;omega) #[.int .i64 s.edge,.bool s.rev]);go_wp2_with (with_reducible refine stZ #[.int .i64 s.edge,.bool s.rev] HGS.out ?_);go_roundg (k1-1)
    case measure=>omega
    case rel=>
     refine⟨l+1,m-ah,_,qbo t s,by have:=HL.out;omega,by omega,by go_num,rfl,zq (by rw[dist_begin,Int.zero_add];have:=HRA.out;omega),zq (by have h1_:=HM.out;have h2_:=HAB.out;have h3_:=HLE.out;rw[HAH.out]at h3_;omega),zq (begin_on HED.out HEB.out),zq ?_,HNB,HN0,zq (by rw[qcI];exact HNS.out),HN2⟩;rw[<-HAH.out,show 40-(l+1)=40-l-1 by omega,<-qfV (Int.not_le.2 HLE.out) HS.out (by have:=HL.out;omega)];exact HWF.out
   exact AllReadyH.nil
end
section
open Go.RowKit
open Go.Great
theorem on_idx_none {t:Tp3}{p:Ps3}{path:List St3}(h: ∀(i:Nat) (y:St3),path[i]?=some y->eqS (stepP p) y=false)(c:Int):onGo t p path c=none:=by
 induction path generalizing c with
 |nil=>rfl
 |cons x r ih=>
  have h0:=h 0 x rfl;rw[onGo,if_neg (by rw[qaX];intro e;rw[<-e,(qaX x x).2 rfl]at h0;cases h0)];exact ih (fun i y hy=>h (i+1) y (by simpa using hy)) _
theorem on_idx_some {t:Tp3}{p:Ps3}{path:List St3}{j:Nat}{x:St3}(hx:path[j]?=some x)(hp:eqS (stepP p) x=true)(hno: ∀(i:Nat) (y:St3),i<j->path[i]?=some y->eqS (stepP p) y=false):onGo t p path 0=some (distP t p+sumT t (path.take j)):=by
 obtain⟨h1,e⟩:=List.getElem?_eq_some_iff.1 hx;have e1:path=path.take j++path.drop j:=(List.take_append_drop j path).symm;have hn: ∀s∈path.take j,s≠stepP p:=by
  intro s hs e;obtain⟨i,hi,rfl⟩:=List.getElem_of_mem hs;rw[List.length_take]at hi;have h2:=hno i _ (by omega) (List.getElem?_eq_getElem (show i<path.length by omega));rw[List.getElem_take]at e;rw[e,(qaX _ _).2 rfl]at h2
  cases h2
 have hpx:x=stepP p:=((qaX _ _).1 hp).symm;rw[show onGo t p path 0=onGo t p (path.take j++path.drop j) 0 by rw[<-e1],on_app hn,on_drop14 hx,if_pos ((qaX _ _).2 hpx)]
 congr 1
 rw[hpx,qcc,qga];show 0+sumT t (path.take j)+qat t p.edge-qaB t p=qat t p.edge-qaB t p+sumT t (path.take j)
 omega
theorem qci (t:Tp3)(a:TpA)(id:Int)(rev:Bool)(n:Int)(w:World)(ht:TopR w t a)(hlt:qaH t=true)(hcj:t.joints.length<=a.cj):
  Calls Tryz.prog 55 #[.agg (tpC t a),.int .i64 id,.bool rev,.int .i64 n] w fun e w'=>e= .returned (.tuple #[.agg (psA (locE t id rev n).1),.int .i64 (locE t id rev n).2])/\Below w.heap.size w w':=by
 obtain⟨rP,hrP⟩: ∃r,(locE t id rev n).1=r:=⟨_,rfl⟩
 obtain⟨rE,hrE⟩: ∃r,(locE t id rev n).2=r:=⟨_,rfl⟩
 have HLE:=zq (show locE t id rev n=(rP,rE)from Prod.ext hrP hrE);rw[hrP,hrE];clear hrP hrE;have HLT:=zq hlt;have HCJ:=zq hcj;obtain⟨cE,hcE⟩: ∃e,qaE t=e:=⟨_,rfl⟩
 have HCE:=zq hcE;clear hlt hcj hcE;obtain⟨wa,hwa,hbwa,HWA,HBWA,h0,h1⟩:=bx2Z w 27 (tpC t a) 51 #[.int .i64 0,.int .i64 0,.bool false];have HT:=zq (fun W (hW:Below w.heap.size w W)=>ht.under hW);have HG0:=zq h0;have HG1:=zq h1;clear hwa hbwa h0 h1 ht;go_enter Tryz.func55,Tryz.ntmps55;go_upto_region 1 with fail;rw[HWA.out];clear HWA;go_wp2_with (with_reducible refine ldZ 12 HG0.out ?_);refine(qfB t a wa (HT.out wa HBWA.out) HLT.out HCJ.out).mono ?_;rw[HCE.out];rintro e w1 ⟨rfl,hb⟩;have HB:=HBWA;clear HBWA;have HB:=tB HB hb;have HG0:=uH HG0 hb;have HG1:=uH HG1 hb;clear hb;by_cases z0:cE=0;rotate_left
 ·have x1:(cE !=0)=true:=by simp[z0]
  have x2:(cE==0)=false:=by simp[z0]
  have HZ0:=zq z0;have HR:=zq (qaa HG1.out #[.int .i64 0,.int .i64 0,.bool false]);have HBF:=zq (qab (g:=w.heap.size+1) HB.out (by omega) #[.int .i64 0,.int .i64 0,.bool false]);go_wp2_with (with_reducible refine stZ #[.int .i64 0,.int .i64 0,.bool false] HG1.out ?_);refine rtZ HR.out ?_;obtain⟨rfl,rfl⟩:=Prod.mk.inj (show(rP,rE)=(zeroP,1)from HLE.out.symm.trans (loc_bad14 (by rw[HCE.out];exact HZ0.out)));exact⟨rfl,HBF.out⟩
 subst z0;go_upto_region 3 with fail;go_wp2_with (with_reducible refine ldZ 17 HG0.out ?_);refine(otp_bal t a id w1 (HT.out w1 HB.out) HLT.out).mono ?_;rintro e w2 ⟨rfl,hb⟩;have HB:=tB HB hb;have HG0:=uH HG0 hb;have HG1:=uH HG1 hb;clear hb;obtain⟨x,hx⟩:=geZ (balR t id);obtain⟨bs,hbs⟩: ∃b,(balF t id).isSome=b:=⟨_,rfl⟩
 have HX:=zq hx;have HBS:=zq hbs;simp only[hx,hbs];clear hx hbs;have hm5:Has (w2.alloc (.cells #[.int .i64 0,.int .i64 0,.int .i64 0] 151)) w2.heap.size 151 #[.int .i64 0,.int .i64 0,.int .i64 0]:=Has.made _ _ _;have HM5:=zq hm5;obtain⟨w6,hw6⟩:=geZ ((w2.alloc (.cells #[.int .i64 0,.int .i64 0,.int .i64 0] 151)).setRow w2.heap.size (blA x));have hb:Below w2.heap.size w2 w6:=by rw[<-hw6];exact qab (g:=w2.heap.size) (bA) (Nat.le_refl _) _
 have HX6:=zq (show Has w6 w2.heap.size 151 (blA x)from by rw[<-hw6];exact qaa HM5.out _);have HWW:=zq hw6;clear hw6 hm5;go_upto_region 4 with(with_reducible refine stZ (blA x) HM5.out ?_)
 rw[HWW.out];clear HWW HM5;have HB:=tB HB hb;have HG0:=uH HG0 hb;have HG1:=uH HG1 hb;clear hb
 cases bs with
 |false=>
  have HR:=zq (qaa HG1.out #[.int .i64 0,.int .i64 0,.bool false]);have HBF:=zq (qab (g:=w.heap.size+1) HB.out (by omega) #[.int .i64 0,.int .i64 0,.bool false]);go_wp2_with (with_reducible refine stZ #[.int .i64 0,.int .i64 0,.bool false] HG1.out ?_);refine rtZ HR.out ?_;obtain⟨rfl,rfl⟩:=Prod.mk.inj (show(rP,rE)=(zeroP,4)from HLE.out.symm.trans (loc_none14 HCE.out HBS.out));exact⟨rfl,HBF.out⟩
 |true=>
  have HLE3:=zq (show(rP,rE)=walkE t ⟨x.edge,x.at_,rev⟩ n from by rw[<-HLE.out,loc_some14 HCE.out HBS.out,HX.out]);clear HLE HCE HX HBS;have d1:w6.cell? ⟨w2.heap.size,1,none⟩=some (.int .i64 x.edge):=HX6.out.cell 1;have d2:w6.cell? ⟨w2.heap.size,2,none⟩=some (.int .i64 x.at_):=HX6.out.cell 2;go_upto_region 6 with fail;go_wp2_with (with_reducible refine ldZ 25 HG0.out ?_);refine(opl_walk0 t a ⟨x.edge,x.at_,rev⟩ n w6 (HT.out w6 HB.out) HLT.out HCJ.out).mono ?_;rw[<-HLE3.out];rintro e w7 ⟨rfl,hb⟩;clear d1 d2 HX6;have HB:=tB HB hb;have HG0:=uH HG0 hb;have HG1:=uH HG1 hb;clear hb;have HR:=zq (qaa HG1.out (psA rP));have HBF:=zq (qab (g:=w.heap.size+1) HB.out (by omega) (psA rP));go_wp2_with (with_reducible refine stZ (psA rP) HG1.out ?_);refine rtZ HR.out ?_;exact⟨rfl,HBF.out⟩
theorem opl_on (t:Tp3)(a:TpA)(path:List St3)(A:Option Addr)(n c:Nat)(p:Ps3)(w:World)(ht:TopR w t a)(hlt:qaH t=true)(hcj:t.joints.length<=a.cj)(hp:SlO stC 2 w A n c path)(hn:n<=100)(hc:n<=c):
  Calls Tryz.prog 145 #[.agg (tpC t a),.slice A n c,.agg (psA p)] w fun e w'=>e= .returned (.tuple #[.int .i64 (onE t path p).1,.int .i64 (onE t path p).2])/\Below w.heap.size w w':=by
 obtain⟨rN,hrN⟩: ∃r,(onE t path p).1=r:=⟨_,rfl⟩
 obtain⟨rE,hrE⟩: ∃r,(onE t path p).2=r:=⟨_,rfl⟩
 have HOE:=zq (show onE t path p=(rN,rE)from Prod.ext hrN hrE);rw[hrN,hrE];clear hrN hrE;have HLT:=zq hlt;have HCJ:=zq hcj;have HNL:=zq (show n<=1048576 by omega);have HCN:=zq hc;have HL:=zq hp.1;clear hlt hcj hn hc;obtain⟨wa,hwa,hbwa,HWA,HBWA,h0,h1⟩:=bx2Z w 27 (tpC t a) 51 (psA p);have HT:=zq (fun W (hW:Below w.heap.size w W)=>ht.under hW);have HP:=zq (fun W (hW:Below w.heap.size w W)=>hp.under hW);have HG0:=zq h0;have HG1:=zq h1;obtain⟨b,hb⟩:=geZ (qa4 t p);have HRB:=zq hb;clear hwa hbwa h0 h1 hb ht hp;go_enter Tryz.func145,Tryz.ntmps145;go_upto_region 1 with fail;rw[HWA.out];clear HWA;go_wp2_with (first|(with_reducible refine ldZ 14 HG0.out ?_)|(with_reducible refine ldZ 15 HG1.out ?_));refine(opl_right t a p wa (HT.out wa HBWA.out) HLT.out HCJ.out).mono ?_;rw[HRB.out];rintro e w1 ⟨rfl,hb⟩;have HB:=HBWA;clear HBWA;have HB:=tB HB hb;have HG0:=uH HG0 hb;have HG1:=uH HG1 hb;clear hb
 cases b with
 |false=>
  go_wp2;go_ret2
  obtain⟨rfl,rfl⟩:=Prod.mk.inj (show(rN,rE)=(0,1)from HOE.out.symm.trans (on_bad14 HRB.out));exact⟨rfl,HB.out⟩
 |true=>
  have HRR:=zq (qaO.1 HRB.out);have HED:=zq (qaD HRR.out.1).1;have HON:=zq HRR.out.2;clear HRR;go_upto_region 3 with fail;go_wp2_with (with_reducible refine ldZ 19 HG0.out ?_);refine(qep t a path A n c w1 (HT.out w1 HB.out) (HP.out w1 HB.out) HNL.out HLT.out HED.out).mono ?_;rintro e w2 ⟨rfl,hb⟩;have HB:=tB HB hb;have HG0:=uH HG0 hb;have HG1:=uH HG1 hb;clear hb;obtain⟨lN,hlN⟩: ∃x,lenN t path=x:=⟨_,rfl⟩
  obtain⟨lE,hlE⟩: ∃x,lenE t path=x:=⟨_,rfl⟩
  have HLE:=zq hlE;simp only[hlN,hlE];clear hlN hlE;by_cases z0:lE=0;rotate_left
  ·have x1:(lE !=0)=true:=by simp[z0]
   have x2:(lE==0)=false:=by simp[z0]
   have HZ0:=zq z0;go_wp2;go_ret2
   obtain⟨rfl,rfl⟩:=Prod.mk.inj (show(rN,rE)=(0,lE)from HOE.out.symm.trans (by rw[on_len14 HRB.out (by rw[HLE.out];exact HZ0.out),HLE.out]));exact⟨rfl,HB.out⟩
  subst z0;have HLO:=zq (qdV HLE.out);have HN4:=zq (show n<=40 from by have h1_:=HLO.out.2.1;have h2_:=HL.out;omega);obtain⟨x0,hx0⟩: ∃x,path[0]?=some x:=⟨_,List.getElem?_eq_getElem (Nat.pos_of_ne_zero (fun e_=>HLO.out.1 (List.length_eq_zero_iff.1 e_)))⟩
  obtain⟨bk,off,rfl,-,-⟩:=(HP.out w2 HB.out).step hx0;clear hx0;go_upto_region 6 with fail;go_wp2_with (with_reducible refine ldZ 28 HG1.out ?_);refine(qes p w2).mono ?_;rintro e w3 ⟨rfl,hb⟩;have HB:=tB HB hb;have HG0:=uH HG0 hb;have HG1:=uH HG1 hb;clear hb;go_wp2_with fail;refine(oixs_any path (stepP p) (some ⟨bk,off,none⟩) n c w3 (HP.out w3 HB.out) HNL.out).mono ?_;rintro e w4 ⟨rfl,hb⟩;have HB:=tB HB hb;have HG0:=uH HG0 hb;have HG1:=uH HG1 hb;clear hb;obtain⟨ix,hix⟩: ∃x,idxL (eqS (stepP p)) path=x:=⟨_,rfl⟩
  have HIX:=zq hix;simp only[hix];clear hix
  rcases qbO (eqS (stepP p)) path 0 with⟨he,hno⟩|⟨j,x,hx,hxp,hno,he⟩
  ·have hie:ix= -1:=by rw[<-HIX.out];exact he
   have hlt:ix<0:=by omega
   have HGO:=zq (on_idx_none (t:=t) hno 0);clear he hno hie;go_wp2;go_ret2
   obtain⟨rfl,rfl⟩:=Prod.mk.inj (show(rN,rE)=(0,4)from HOE.out.symm.trans (on_none14 HRB.out HLE.out HGO.out));exact⟨rfl,HB.out⟩
  have hie:ix=j:=by rw[<-HIX.out];refine he.trans ?_;rw[Nat.zero_add]
  have HGO:=zq (on_idx_some (t:=t) hx hxp hno);have hjn:=(List.getElem?_eq_some_iff.1 hx).1;rw[HL.out]at hjn;have HJN:=zq hjn;clear HIX he hno hx hxp;subst hie;have hge: ¬(j:Int)<0:=by omega
  obtain⟨d,hd⟩: ∃x,distP t p=x:=⟨_,rfl⟩
  have HD:=zq hd;have HDO:=zq (show 0<=d/\d<=1000000 from by rw[<-hd];exact dist_ok HED.out HON.out);clear hd;have hj0:(0:Int)<=j:=by omega
  have hjc:(j:Int)<=c:=by have:=HCN.out;omega
  have hjc2:j<=c:=by have:=HCN.out;omega
  go_upto_region 9 with fail;clear hge;go_wp2_with (first|(with_reducible refine ldZ 33 HG0.out ?_)|(with_reducible refine ldZ 34 HG1.out ?_));refine(qdw t a p w4 (HT.out w4 HB.out) HON.out HED.out).mono ?_;rw[HD.out];rintro e w5 ⟨rfl,hb⟩;have HB:=tB HB hb;have HG0:=uH HG0 hb;have HG1:=uH HG1 hb;clear hb;go_wp2;go_loopg [11,40] n (fun kk v11 v40 wl=> ∃(i:Nat) (sv:Int),i<=j/\j-i<=kk/\v40= .int .i64 i/\v11= .int .i64 (d+sv)/\Hid (sumT t (path.take i)=sv)/\Hid (Below w5.heap.size w5 wl))
  case atStart=>exact⟨0,0,by omega,by omega,rfl,by rw[Int.add_zero],zq (by simp[sumT]),zq (Below.refl _ _)⟩
  obtain⟨i,sv,hi,hik,rfl,rfl,HSV,HBL⟩:=hrel;have HBR:=zq (HB.out.trans (HBL.out.mono HB.out.size));have HSB:=zq (show 0<=sv/\sv<=40000000 from by have h1_:=qck HED.out (path:=path.take i) (fun s hs=>HLO.out.2.2.1 s (List.mem_of_mem_take hs));have h2_:=HSV.out;have h3_:(path.take i).length<=40:=(by rw[List.length_take];have:=HN4.out;omega);omega);by_cases hlt:i<j;rotate_left
  ·obtain rfl:i=j:=by omega
   have x1: ¬(i:Int)<i:=by omega
   clear hi hik hlt;go_wp2;go_ret2
   obtain⟨rfl,rfl⟩:=Prod.mk.inj (show(rN,rE)=(d+sv,0)from HOE.out.symm.trans (on_some14 HRB.out HLE.out (by rw[HGO.out,HD.out,HSV.out])));exact⟨rfl,HBR.out⟩
  obtain⟨x,hx⟩:=glZ path (i) (by rw[HL.out];have:=HJN.out;omega);have HX:=zq hx;obtain⟨b_,o_,e_,e0,e1⟩:=(HP.out wr HBR.out).step hx;injection e_ with e_
  injection e_ with e1_ e2_ _
  subst e1_ e2_;have hxe:=HLO.out.2.2.1 x (List.mem_of_getElem? hx);have HXE:=zq hxe;have hxe2:=hxe;unfold edgeB at hxe2;simp only[Bool.and_eq_true,decide_eq_true_eq]at hxe2;obtain⟨ke,hke⟩: ∃k:Nat,x.edge=k:=⟨x.edge.toNat,by omega⟩
  have hkl:ke<t.edges.length:=by omega
  obtain⟨be,oe,hae,ce⟩:=(HT.out wr HBR.out).e.edge hkl;have HLA:=zq (show lenAt t x=t.edges.getD ke 0 from by unfold lenAt;rw[hke];rfl);obtain⟨q,hq⟩:=geZ (t.edges.getD ke 0);rw[hq]at HLA ce;have HQ:=zq (show 1<=q/\q<=1000000 from by rw[<-HLA.out];exact qaT HED.out hxe);have c0:wr.cell? ⟨w.heap.size,0,none⟩=some (.slice (some ⟨be,oe,none⟩) t.edges.length a.ce):=by have h_:=(HG0.out.under HBL.out HG0.out.lt).cell 0;rw[<-hae];exact h_
  obtain⟨ne,hne⟩: ∃m,t.edges.length=m:=⟨_,rfl⟩
  rw[hne]at c0 hkl;rw[hke]at e0;have HC0:=zq c0;have HCE:=zq ce;obtain⟨xe,xr⟩:=x;dsimp only at*;have y0:(0:Int)<=i:=by omega
  have y1:(i:Int)<j:=by omega
  have z0:(0:Int)<=ke:=by omega
  have z1:(ke:Int)<ne:=by omega
  have hwr1:IntKind.i64.wrap (d+sv+q)=d+sv+q:=by have h1_:=HQ.out;have h2_:=HSB.out;have h3_:=HDO.out;rw[IntKind.wrap_i64];omega
  clear hx hxe hxe2 hke hkl hae hq hne c0 ce;obtain⟨k1,hk1⟩: ∃k1,k1=gk:=⟨_,rfl⟩
  subst hk1;obtain⟨wv,hwv⟩: ∃wv,wv=wr:=⟨_,rfl⟩
  subst hwv;go_upto_region 13 with fail;obtain⟨wb,hwb⟩:=geZ (wv.alloc (.cells #[.int .i64 (ke:Int),.bool xr] 30));rw[hwb];have hbb:Below wv.heap.size wv wb:=by rw[<-hwb];exact bA
  have g0:wb.cell? ⟨wv.heap.size,0,none⟩=some (.int .i64 (ke:Int)):=by rw[<-hwb];exact(Has.made _ _ _).cell 0
  have c0:wb.cell? ⟨w.heap.size,0,none⟩=some (.slice (some ⟨be,oe,none⟩) ne a.ce):=(hbb.cell (qah HC0.out)).trans HC0.out;have ce:wb.cell? ⟨be,oe+ke,none⟩=some (.int .i64 q):=(hbb.cell (qah HCE.out)).trans HCE.out;have HBN:=tB HBL hbb;clear hwb hbb e0 e1 y0 y1;have hn40:j<=40:=by have h1_:=HN4.out;have h2_:=HJN.out;omega
  go_wp2;go_roundg (k1-1)
  case measure=>omega
  case rel=>
   exact⟨i+1,sv+q,by omega,by omega,by go_num,by rw[Int.add_assoc],zq (by rw[sum_take14 HX.out,HSV.out,HLA.out]),HBN⟩
end
section
open Go.RowKit
open Go.Great
theorem qeh (a b:St3):eqS a b=eqS b a:=by
 rw[Bool.eq_iff_iff,qaX,qaX];exact eq_comm
theorem any_among17 (l:List St3)(v:St3):l.any (eqS v)=qb1 l v:=by
 unfold qb1
 congr 1
 funext x
 exact qeh v x
theorem qbT {P:Program}(s:Nat)(t e:TypeId)(h:P.underlying t=some (.slice e))(hs:(P.info? e).map (·.size)=some s)(A:Option Addr)(n c p:Nat)(hp:p<=n)(w:World):
  (Instr.sliceAt t (.slice A n c) (some (.int .i64 (p:Nat))) none none).run P w= .ok (.slice (if c=p then A else A.map (·.add (p*s))) (n-p) (c-p)) w:=by
 have e1:(sizeOf e).run P w= .ok s w:=by
  cases hi:P.info? e with
  |none=>rw[hi]at hs;cases hs
  |some i=>
   rw[hi]at hs;simp only[Option.map_some,Option.some.injEq]at hs;simp[sizeOf,run_typeInfo _ hi,hs]
 have h0:(0:Int)<=(p:Nat):=by omega
 have h1:((p:Nat):Int)<=(n:Nat):=by omega
 simp[Instr.sliceAt,Instr.slice,run_underlying h,Instr.sliceBounds,run_sliceBound,h0,h1,e1]
theorem sl_from17 {w:World}{s:Nat}{A:Option Addr}{n c:Nat}{vs:List Value}(h:Sl w s A n c vs)(hc:n<=c){p:Nat}(hp:p<=n):Sl w s (if c=p then A else A.map (·.add (p*s))) (n-p) (c-p) (vs.drop (p*s)):=by
 have hl:vs.length=n*s:=h.1;refine⟨by rw[List.length_drop,hl,Nat.sub_mul],fun e=>?_,fun ad ha j u hu=>?_⟩
 ·cases A with
  |none=>have:=h.2.1 rfl;omega
  |some a=>
   rw[Option.map_some]at e;split at e<;>cases e
 ·have hj:p*s+j<n*s:=by
   have:=(List.getElem?_eq_some_iff.1 hu).1;rw[List.length_drop]at this;omega
  rw[List.getElem?_drop]at hu;have hcp:c≠p:=fun e=>by
   have:n*s<=p*s:=Nat.mul_le_mul_right s (by omega);omega
  rw[if_neg hcp]at ha
  cases A with
  |none=>cases ha
  |some a=>
   rw[Option.map_some]at ha;injection ha with ha
   subst ha;have h4:=h.2.2 a rfl (p*s+j) u hu;have e:(a.add (p*s)).add j=a.add (p*s+j):=by
    unfold Addr.add;by_cases h1:p*s=0
    ·rw[h1];simp
    ·by_cases h2:j=0
     ·subst h2;simp[h1]
     ·simp[h1,h2,Nat.add_assoc]
   rw[e];exact h4
theorem SlO.from17 {α:Type}{f:α->List Value}{k:Nat}{w:World}{A:Option Addr}{n c:Nat}{l:List α}(h:SlO f k w A n c l)(hf: ∀x,(f x).length=k)(hc:n<=c){p:Nat}(hp:p<=n):SlO f k w (if c=p then A else A.map (·.add (p*k))) (n-p) (c-p) (l.drop p):=by
 have hl:=h.1;refine⟨by rw[List.length_drop,hl],?_⟩;have h1:l.flatMap f=(l.take p).flatMap f++(l.drop p).flatMap f:=by rw[<-List.flatMap_append,List.take_append_drop]
 have h2:((l.take p).flatMap f).length=p*k:=by rw[qbx (f:=f) (k:=k) hf,List.length_take,Nat.min_eq_left (by omega)]
 have h3:(l.drop p).flatMap f=(l.flatMap f).drop (p*k):=by rw[h1,<-h2,List.drop_left]
 rw[h3];exact sl_from17 h.2 hc hp
theorem ris_app17 {p:Int}{a b:List Sc3}:risB p (a++b)=(risB p a &&risB (qbt p a) b):=by
 induction a generalizing p with
 |nil=>simp[risB,qbt]
 |cons s r ih=>
  rw[List.cons_append,risB,risB,ih,qbt];simp only[Bool.and_assoc]
theorem ris_at17 {l:List Sc3}{i:Nat}{s:Sc3}(h:l[i]?=some s):risB 0 (l.take (i+1))=(risB 0 (l.take i) &&(decide (qbt 0 (l.take i)<s.to_) &&(decide (1<=s.timer) &&decide (s.timer<=1000)))):=by
 rw[List.take_add_one,h,ris_app17];simp only[Option.toList,risB,Bool.and_true]
theorem ris_part17 {l:List Sc3}{i:Nat}(h:risB 0 (l.take i)=false):risB 0 l=false:=by
 have h1:=ris_app17 (p:=0) (a:=l.take i) (b:=l.drop i);rw[List.take_append_drop]at h1;rw[h1,h,Bool.false_and]
theorem last_at_17 {l:List Sc3}{i:Nat}{s:Sc3}(h:l[i]?=some s):qbt 0 (l.take (i+1))=s.to_:=by
 rw[List.take_add_one,h];exact qfo _ _ _
theorem sum_at17 {t:Tp3}{l:List St3}{i:Nat}{s:St3}(h:l[i]?=some s):sumT t (l.take (i+1))=sumT t (l.take i)+lenAt t s:=by
 rw[List.take_add_one,h,qew];show _+(lenAt t s+0)=_
 rw[Int.add_zero]
theorem reach_at17 {age n:Int}{l:List Sc3}{i:Nat}{s:Sc3}(h:l[i]?=some s):qdJ age n (l.drop i)=if age<s.timer then qdJ age s.to_ (l.drop (i+1))else n:=by
 rw[qbk h,qdJ]
theorem opgo_any (x:St3)(d:Int)(g:Nat)(w:World)(hc:w.cell? ⟨g,0,none⟩=some (.int .i64 d)):
  Calls Tryz.prog 182 #[.agg (stA13 x),.pointer (some ⟨g,0,none⟩)] w fun e w'=>e= .returned (.bool (x.edge==d))/\Below w.heap.size w w':=by
 obtain⟨wa,hwa,hbwa,HWA,HBWA,h0⟩:=bx1Z w 30 (stA13 x);have c0:wa.cell? ⟨w.heap.size,0,none⟩=some (.int .i64 x.edge):=h0.cell 0;have e0:wa.cell? ⟨g,0,none⟩=some (.int .i64 d):=(hbwa.cell (qah hc)).trans hc;clear hwa hbwa h0 hc;obtain⟨q,hq⟩:=geZ ((x.edge==d));rw[hq];unfold stA13 at*;go_enter Tryz.func182,Tryz.ntmps182;go_upto_region 1 with fail;rw[HWA.out];clear HWA;go_wp2;go_ret
 exact⟨by first|rfl|(rw[hq];done)|simp_all,HBWA.out⟩
theorem oix_go (p:St3->Bool)(l:List St3)(A:Option Addr)(n c:Nat)(g:Nat)(w:World)(hs:SlO stC 2 w A n c l)(hbig:n<=1048576)
  (HE:Hid (∀(x:St3) W,Below w.heap.size w W->Calls Tryz.prog 182 #[.agg (stA13 x),.pointer (some ⟨g,0,none⟩)] W fun e w'=>e= .returned (.bool (p x))/\Below W.heap.size W w')):
  Calls Tryz.prog 181 #[.slice A n c,.func (.func 182) #[] #[.pointer (some ⟨g,0,none⟩)]] w fun e w'=>e= .returned (.int .i64 (idxL p l))/\Below w.heap.size w w':=by
 try unfold blA at HE
 try unfold stA13 at HE
 have HN:Hid (l.length=n):=zq hs.len13;have HW:=zq hs;clear hs;have x0:(0:Int)<=n:=by omega
 obtain⟨R,hR⟩:=geZ (idxL p l);have HR:=zq hR;rw[hR];clear hR;go_enter Tryz.func181,Tryz.ntmps181;go_wp2;go_loopg [8] n (fun kk v wl=> ∃j:Nat,j<=n/\n-j<=kk/\v= .int .i64 j/\Hid (∀i x,i<j->l[i]?=some x->p x=false)/\Hid (Below w.heap.size w wl))
 case atStart=>exact⟨0,by omega,by omega,rfl,zq fun i x h=>absurd h (by omega),zq (Below.refl _ _)⟩
 obtain⟨j,hj,hjk,rfl,HNO,HBL⟩:=hrel;by_cases hlt:j<n
 ·obtain⟨x,hx⟩:=glZ l (j) (by rw[HN.out];omega)
  obtain⟨bk,off,rfl,d0,d1⟩:=(HW.out.under HBL.out).step hx;have HX:=zq hx;have y0:(0:Int)<=j:=by omega
  have y1:(j:Int)<n:=by omega
  have HC:=zq (HE.out x wr HBL.out);clear hx;generalize hb:p x=b at*;have HBE:=zq hb;clear hb
  cases b with
  |true=>
   have HF:Hid (R=j):=zq (by rw[<-HR.out];exact qbE HX.out HBE.out HNO.out);go_upto_region 4 with fail;go_wp2_with fail;refine HC.out.mono ?_;rintro e w1 ⟨rfl,hb1⟩;have HB1:=tB HBL hb1;clear hb1 d0 d1 HBE HNO;go_wp2;go_ret
   exact⟨by rw[HF.out];rfl,HB1.out⟩
  |false=>
   go_upto_region 4 with fail;go_wp2_with fail;refine HC.out.mono ?_;rintro e w1 ⟨rfl,hb1⟩;have HB1:=tB HBL hb1;have HN2:Hid (∀i y,i<j+1->l[i]?=some y->p y=false):=zq fun i y hi hy=>by
    by_cases h:i=j
    ·subst h;rw[HX.out]at hy;cases hy;exact HBE.out
    ·exact HNO.out i y (by omega) hy
   clear hb1 d0 d1 HBE HNO;go_wp2;go_roundg (gk-1)
   case measure=>omega
   case rel=>exact⟨j+1,by omega,by omega,by go_num,HN2,HB1⟩
 ·have y1: ¬(j:Int)<n:=by omega
  have HF:Hid (R= -1):=zq (by rw[<-HR.out];exact qbc fun i y hi hy=>HNO.out i y (by have:=HN.out;omega) hy);go_wp2;go_ret
  exact⟨by rw[HF.out];rfl,HBL.out⟩
theorem oct_go (p:St3->Bool)(l:List St3)(A:Option Addr)(n c:Nat)(g:Nat)(w:World)(hs:SlO stC 2 w A n c l)(hbig:n<=1048576)
  (HE:Hid (∀(x:St3) W,Below w.heap.size w W->Calls Tryz.prog 182 #[.agg (stA13 x),.pointer (some ⟨g,0,none⟩)] W fun e w'=>e= .returned (.bool (p x))/\Below W.heap.size W w')):
  Calls Tryz.prog 108 #[.slice A n c,.func (.func 182) #[] #[.pointer (some ⟨g,0,none⟩)]] w fun e w'=>e= .returned (.bool (l.any p))/\Below w.heap.size w w':=by
 have H:=zq (oix_go p l A n c g w hs hbig HE);clear hs HE;rw[<-qbn];generalize idxL p l=R at*;go_enter Tryz.func108,Tryz.ntmps108;go_wp2_with fail;refine H.out.mono ?_;rintro e w1 ⟨rfl,hb1⟩;have HB1:=zq hb1;clear hb1 H;go_wp2;go_ret
 exact⟨rfl,HB1.out⟩
theorem qem (path:List St3)(e:Int)(A:Option Addr)(n c:Nat)(w:World)(hp:SlO stC 2 w A n c path)(hn:n<=1048576):
  Calls Tryz.prog 110 #[.slice A n c,.int .i64 e] w fun r w'=>r= .returned (.bool (goesB path e))/\Below w.heap.size w w':=by
 obtain⟨wa,hwa,hbwa,HWA,HBWA,h0⟩:=bx1Z w 3 #[.int .i64 e];have n0:wa.cell? ⟨w.heap.size,0,none⟩=some (.int .i64 e):=h0.cell 0;have H:=zq (oct_go (fun s=>s.edge==e) path A n c (w.heap.size) wa (hp.under hbwa) hn (zq fun x W hW=>opgo_any x e (w.heap.size) W ((hW.cell (qah n0)).trans n0)));unfold goesB;generalize (path.any fun s=>s.edge==e)=R at*;clear hwa hbwa h0 hp n0;go_enter Tryz.func110,Tryz.ntmps110;go_upto_region 1 with fail;rw[HWA.out];clear HWA;go_wp2_with fail;refine H.out.mono ?_;rintro e_ w1 ⟨rfl,hb1⟩;have HB1:=tB HBWA hb1;clear hb1 H HBWA;go_wp2;go_ret
 exact⟨rfl,HB1.out⟩
theorem oprep_any (path:List St3)(A:Option Addr)(n c:Nat)(w:World)(hp:SlO stC 2 w A n c path)(hn:n<=1048576)(hc:n<=c):
  Calls Tryz.prog 58 #[.slice A n c] w fun e w'=>e= .returned (.bool (qbs path))/\Below w.heap.size w w':=by
 have HS:=zq hp;have HN:Hid (path.length=n):=zq hp.1;clear hp;obtain⟨Q,hQ⟩:=geZ (qbs path);have HQ:=zq hQ;rw[hQ];clear hQ;go_enter Tryz.func58,Tryz.ntmps58;go_wp2;go_loopg [7] n (fun kk v wl=> ∃i:Nat,i<=n/\n-i<=kk/\v= .int .i64 i/\Hid (∀m,m<i->repB path m=false)/\Hid (Below w.heap.size w wl))
 case atStart=>exact⟨0,by omega,by omega,rfl,zq fun m h=>absurd h (by omega),zq (Below.refl _ _)⟩
 obtain⟨i,hi,hik,rfl,HNO,HBL⟩:=hrel;obtain⟨wv,hwv⟩: ∃wv,wv=wr:=⟨_,rfl⟩
 subst hwv;by_cases hlt:i<n;rotate_left
 ·have y1: ¬(i:Int)<n:=by omega
  have HF:Hid (Q=false):=zq (by
   rw[<-HQ.out]
   cases hq:qbs path with
   |false=>rfl
   |true=>
    obtain⟨m,hm,h⟩:=qd4.2 hq;rw[HNO.out m (by have:=HN.out;omega)]at h
    cases h)
  go_wp2;go_ret
  exact⟨by rw[HF.out];rfl,HBL.out⟩
 obtain⟨x,hx⟩:=glZ path (i) (by rw[HN.out];omega);obtain⟨bk,off,rfl,d0,d1⟩:=(HS.out.under HBL.out).step hx;have y0:(0:Int)<=i:=by omega
 have y1:(i:Int)<n:=by omega
 have y2:(i:Int)<=c:=by omega
 obtain⟨q,hq⟩:=geZ (repB path i);have hqe:goesB (path.take i) x.edge=q:=by rw[<-hq];unfold repB goesB;rw[hx]
 have HQI:=zq hq;have HQE:=zq hqe;have HII:=zq (show i<=n/\i<=1048576 from⟨hi,by omega⟩);clear hq hqe hx;go_upto_region 4 with fail;obtain⟨wb,hwb⟩:=geZ (wv.alloc (.cells #[.int .i64 x.edge,.bool x.rev] 30));rw[hwb];have hbb:Below wv.heap.size wv wb:=by rw[<-hwb];exact bA
 have hH:Has wb wv.heap.size 30 #[.int .i64 x.edge,.bool x.rev]:=by rw[<-hwb];exact Has.made _ _ _
 have HH:=zq hH;have HBB:=tB HBL hbb;obtain⟨gs,hgs⟩: ∃g,wv.heap.size=g:=⟨_,rfl⟩
 rw[hgs]at HH;simp only[hgs];clear hwb hbb hH hgs d0 d1;refine wp_region_held_drew (S:=(fun W_=>(Has W_ (gs) 30 #[.int .i64 x.edge,.bool x.rev])/\(Below wb.heap.size wb W_))) (by kernel_rfl) ?_ (fun hHeld=>?_)
 ·exact⟨HH.out.draw,qaf (Below.refl _ _)⟩
 refine tkZ 0 12 (h:=?_);simp only[lyZ];refine tkZ 1 13 (h:=?_);simp only[lyZ];refine tkZ 2 14 (h:=?_);simp only[lyZ];refine tkZ 3 15 (h:=?_);simp only[lyZ];refine tqZ 4 16 (fun w_ ⟨s0,s1⟩=>(show w_.cell? ⟨gs,0,none⟩=some (.int .i64 x.edge:Value)from s0.cell 0)) (h:=?_);simp only[lyZ];refine rdZ [5] ?_;refine acZ (some 17) (fun K hK=>?_) ?_
 ·go_simp
  obtain⟨s0,s1⟩:=hHeld;refine(qem (path.take i) x.edge (some ⟨bk,off,none⟩) i c _ ((HS.out.under (bu HBB.out s1)).take (fun _=>rfl) (by simp) HII.out.1) HII.out.2).mono ?_;rw[HQE.out];rintro e_ q1 ⟨rfl,hb_⟩;go_wp2_with fail;refine hK.out _ _ ?_ (fun hHeld=>?_)
  ·exact⟨s0.u hb_,bu s1 hb_⟩
  clear hK K s0 s1
  try simp only[lyZ]
  refine dnZ ?_;have HB1:=zq (HBB.out.trans (hHeld.2.mono HBB.out.size));clear hHeld
  cases q with
  |true=>
   have HF:Hid (Q=true):=zq (by rw[<-HQ.out];exact qd4.1 ⟨i,by have:=HN.out;omega,HQI.out⟩);clear HNO;go_wp2;go_ret
   exact⟨by rw[HF.out];rfl,HB1.out⟩
  |false=>
   have HN2:Hid (∀m,m<i+1->repB path m=false):=zq fun m hm=>by
    by_cases h:m=i
    ·rw[h];exact HQI.out
    ·exact HNO.out m (by omega)
   clear HNO;go_wp2;go_roundg (gk-1)
   case measure=>omega
   case rel=>exact⟨i+1,by omega,by omega,by go_num,HN2,HB1⟩
 exact AllReadyH.nil
theorem opme_any (x:St3)(b:List St3)(A:Option Addr)(n c:Nat)(g:Nat)(w:World)(hc:w.cell? ⟨g,0,none⟩=some (.slice A n c))(hb:SlO stC 2 w A n c b)(hn:n<=1048576):
  Calls Tryz.prog 109 #[.agg (stA13 x),.pointer (some ⟨g,0,none⟩)] w fun r w'=>r= .returned (.bool (goesB b x.edge))/\Below w.heap.size w w':=by
 obtain⟨wa,hwa,hbwa,HWA,HBWA,h0⟩:=bx1Z w 30 (stA13 x);have c0:wa.cell? ⟨w.heap.size,0,none⟩=some (.int .i64 x.edge):=h0.cell 0;have e0:wa.cell? ⟨g,0,none⟩=some (.slice A n c):=(hbwa.cell (qah hc)).trans hc;have H:=zq (qem b x.edge A n c wa (hb.under hbwa) hn);generalize goesB b x.edge=R at*;clear hwa hbwa h0 hc hb;unfold stA13 at*;go_enter Tryz.func109,Tryz.ntmps109;go_upto_region 1 with fail;rw[HWA.out];clear HWA;go_wp2_with fail;refine H.out.mono ?_;rintro e_ w1 ⟨rfl,hb1⟩;have HB1:=tB HBWA hb1;clear hb1 H HBWA;go_wp2;go_ret
 exact⟨rfl,HB1.out⟩
theorem oix_me (p:St3->Bool)(l:List St3)(A:Option Addr)(n c:Nat)(g:Nat)(w:World)(hs:SlO stC 2 w A n c l)(hbig:n<=1048576)
  (HE:Hid (∀(x:St3) W,Below w.heap.size w W->Calls Tryz.prog 109 #[.agg (stA13 x),.pointer (some ⟨g,0,none⟩)] W fun e w'=>e= .returned (.bool (p x))/\Below W.heap.size W w')):
  Calls Tryz.prog 181 #[.slice A n c,.func (.func 109) #[] #[.pointer (some ⟨g,0,none⟩)]] w fun e w'=>e= .returned (.int .i64 (idxL p l))/\Below w.heap.size w w':=by
 try unfold blA at HE
 try unfold stA13 at HE
 have HN:Hid (l.length=n):=zq hs.len13;have HW:=zq hs;clear hs;have x0:(0:Int)<=n:=by omega
 obtain⟨R,hR⟩:=geZ (idxL p l);have HR:=zq hR;rw[hR];clear hR;go_enter Tryz.func181,Tryz.ntmps181;go_wp2;go_loopg [8] n (fun kk v wl=> ∃j:Nat,j<=n/\n-j<=kk/\v= .int .i64 j/\Hid (∀i x,i<j->l[i]?=some x->p x=false)/\Hid (Below w.heap.size w wl))
 case atStart=>exact⟨0,by omega,by omega,rfl,zq fun i x h=>absurd h (by omega),zq (Below.refl _ _)⟩
 obtain⟨j,hj,hjk,rfl,HNO,HBL⟩:=hrel;by_cases hlt:j<n
 ·obtain⟨x,hx⟩:=glZ l (j) (by rw[HN.out];omega)
  obtain⟨bk,off,rfl,d0,d1⟩:=(HW.out.under HBL.out).step hx;have HX:=zq hx;have y0:(0:Int)<=j:=by omega
  have y1:(j:Int)<n:=by omega
  have HC:=zq (HE.out x wr HBL.out);clear hx;generalize hb:p x=b at*;have HBE:=zq hb;clear hb
  cases b with
  |true=>
   have HF:Hid (R=j):=zq (by rw[<-HR.out];exact qbE HX.out HBE.out HNO.out);go_upto_region 4 with fail;go_wp2_with fail;refine HC.out.mono ?_;rintro e w1 ⟨rfl,hb1⟩;have HB1:=tB HBL hb1;clear hb1 d0 d1 HBE HNO;go_wp2;go_ret
   exact⟨by rw[HF.out];rfl,HB1.out⟩
  |false=>
   go_upto_region 4 with fail;go_wp2_with fail;refine HC.out.mono ?_;rintro e w1 ⟨rfl,hb1⟩;have HB1:=tB HBL hb1;have HN2:Hid (∀i y,i<j+1->l[i]?=some y->p y=false):=zq fun i y hi hy=>by
    by_cases h:i=j
    ·subst h;rw[HX.out]at hy;cases hy;exact HBE.out
    ·exact HNO.out i y (by omega) hy
   clear hb1 d0 d1 HBE HNO;go_wp2;go_roundg (gk-1)
   case measure=>omega
   case rel=>exact⟨j+1,by omega,by omega,by go_num,HN2,HB1⟩
 ·have y1: ¬(j:Int)<n:=by omega
  have HF:Hid (R= -1):=zq (by rw[<-HR.out];exact qbc fun i y hi hy=>HNO.out i y (by have:=HN.out;omega) hy);go_wp2;go_ret
  exact⟨by rw[HF.out];rfl,HBL.out⟩
theorem oct_me (p:St3->Bool)(l:List St3)(A:Option Addr)(n c:Nat)(g:Nat)(w:World)(hs:SlO stC 2 w A n c l)(hbig:n<=1048576)
  (HE:Hid (∀(x:St3) W,Below w.heap.size w W->Calls Tryz.prog 109 #[.agg (stA13 x),.pointer (some ⟨g,0,none⟩)] W fun e w'=>e= .returned (.bool (p x))/\Below W.heap.size W w')):
  Calls Tryz.prog 108 #[.slice A n c,.func (.func 109) #[] #[.pointer (some ⟨g,0,none⟩)]] w fun e w'=>e= .returned (.bool (l.any p))/\Below w.heap.size w w':=by
 have H:=zq (oix_me p l A n c g w hs hbig HE);clear hs HE;rw[<-qbn];generalize idxL p l=R at*;go_enter Tryz.func108,Tryz.ntmps108;go_wp2_with fail;refine H.out.mono ?_;rintro e w1 ⟨rfl,hb1⟩;have HB1:=zq hb1;clear hb1 H;go_wp2;go_ret
 exact⟨rfl,HB1.out⟩
theorem opmeets_any (a b:List St3)(A B:Option Addr)(n c m d:Nat)(w:World)(ha:SlO stC 2 w A n c a)(hb:SlO stC 2 w B m d b)(hn:n<=1048576)(hm:m<=1048576):
  Calls Tryz.prog 48 #[.slice A n c,.slice B m d] w fun r w'=>r= .returned (.bool (qeL a b))/\Below w.heap.size w w':=by
 obtain⟨wa,hwa,hbwa,HWA,HBWA,h0⟩:=bx1Z w 35 #[.slice B m d];have n0:wa.cell? ⟨w.heap.size,0,none⟩=some (.slice B m d):=h0.cell 0;have H:=zq (oct_me (fun s=>goesB b s.edge) a A n c (w.heap.size) wa (ha.under hbwa) hn (zq fun x W hW=>opme_any x b B m d (w.heap.size) W ((hW.cell (qah n0)).trans n0) ((hb.under hbwa).under hW) hm));unfold qeL;generalize (a.any fun s=>goesB b s.edge)=R at*;clear hwa hbwa h0 ha hb n0;go_enter Tryz.func48,Tryz.ntmps48;go_upto_region 1 with fail;rw[HWA.out];clear HWA;go_wp2_with fail;refine H.out.mono ?_;rintro e_ w1 ⟨rfl,hb1⟩;have HB1:=tB HBWA hb1;clear hb1 H HBWA;go_wp2;go_ret
 exact⟨rfl,HB1.out⟩
theorem qft (l:List St3)(v:St3)(A:Option Addr)(n c:Nat)(w:World)(hs:SlO stC 2 w A n c l)(hn:n<=1048576):
  Calls Tryz.prog 42 #[.slice A n c,.agg (stA13 v)] w fun r w'=>r= .returned (.bool (qb1 l v))/\Below w.heap.size w w':=by
 obtain⟨wa,hwa,hbwa,HWA,HBWA,h0⟩:=bx1Z w 30 (stA13 v);have HX:=zq h0;have H:=zq (oixs_any l v A n c wa (hs.under hbwa) hn);rw[<-any_among17,<-qbn];generalize idxL (eqS v) l=R at*;clear hwa hbwa h0 hs;go_enter Tryz.func42,Tryz.ntmps42;go_upto_region 1 with fail;rw[HWA.out];clear HWA;go_wp2_with (with_reducible refine ldZ 6 HX.out ?_);refine H.out.mono ?_;rintro e_ w1 ⟨rfl,hb1⟩;have HB1:=tB HBWA hb1;clear hb1 H HBWA HX;go_wp2;go_ret
 exact⟨rfl,HB1.out⟩
theorem opbegins_any (path steps:List St3)(A B:Option Addr)(n c m d:Nat)(w:World)(ha:SlO stC 2 w A n c path)(hb:SlO stC 2 w B m d steps)(hm:m<=1048576):
  Calls Tryz.prog 47 #[.slice A n c,.slice B m d] w fun r w'=>r= .returned (.bool (qc5 path steps))/\Below w.heap.size w w':=by
 have HB:=zq (Below.refl w.heap.size w);have hl:=ha.1
 cases path with
 |nil=>
  have z0: ¬(0:Int)<n:=by rw[<-hl];simp
  clear ha hb hl;unfold qc5;go_enter Tryz.func47,Tryz.ntmps47;go_wp2;go_ret
  exact⟨rfl,HB.out⟩
 |cons x r=>
  obtain⟨bk,off,rfl,d0,d1⟩:=ha.step (j:=0) (x:=x) rfl;rw[Nat.zero_mul,Nat.add_zero]at d0 d1;have z0:(0:Int)<n:=by have h_:(x::r).length=r.length+1:=rfl;omega
  have z1:0<n:=by omega
  have H:=zq (qft steps x B m d w hb hm);show Calls _ _ _ _ fun r w'=>r= .returned (.bool (qb1 steps x))/\_
  generalize qb1 steps x=R at*;clear ha hb hl HB;obtain⟨xe,xr⟩:=x;unfold stA13 at H;dsimp only at*;go_enter Tryz.func47,Tryz.ntmps47;go_wp2_with fail;refine H.out.mono ?_;rintro e_ w1 ⟨rfl,hb1⟩;have HB1:=zq hb1;clear hb1 H d0 d1;go_wp2;go_ret
  exact⟨rfl,HB1.out⟩
theorem qcC (p:Ps3)(w:World):
  Calls Tryz.prog 56 #[.agg (psA p)] w fun e w'=>e= .returned (.agg (stA13 (stepP p)))/\Below w.heap.size w w':=by
 obtain⟨wa,hwa,hbwa,HWA,HBWA,h0,h1⟩:=bx2Z w 51 (psA p) 30 #[.int .i64 0,.bool false];have c0:wa.cell? ⟨w.heap.size,0,none⟩=some (.int .i64 p.edge):=h0.cell 0;have c2:wa.cell? ⟨w.heap.size,2,none⟩=some (.bool p.rev):=h0.cell 2;have HZ:=zq h1;clear hwa hbwa h0 h1;obtain⟨n,k,r⟩:=p;unfold psA at*;unfold stepP stA13;dsimp only at*;have HR:=zq (qaa HZ.out #[.int .i64 n,.bool r]);have HBF:=zq (qab (g:=w.heap.size+1) HBWA.out (by omega) #[.int .i64 n,.bool r]);go_enter Tryz.func56,Tryz.ntmps56;go_upto_region 1 with fail;rw[HWA.out];clear HWA HBWA;go_wp2_with (with_reducible refine stZ #[.int .i64 n,.bool r] HZ.out ?_);refine roZ HR.out ?_;exact⟨rfl,HBF.out⟩
theorem qen (t:Tp3)(a:TpA)(k:Lc3)(w:World)(ht:TopR w t a)(hl:qaH t=true):
  Calls Tryz.prog 45 #[.agg (tpC t a),.agg (lcA k)] w fun r w'=> ∃X x,r= .returned (.slice X (pathR t k.route).length x)/\SlO stC 2 w' X (pathR t k.route).length x (pathR t k.route)/\Below w.heap.size w w':=by
 obtain⟨wa,hwa,hbwa,HWA,HBWA,h0,h1⟩:=bx2Z w 27 (tpC t a) 73 (lcA k);have c0:wa.cell? ⟨w.heap.size+1,0,none⟩=some (.int .i64 k.route):=h1.cell 0;have H0:=zq h0;have H:=zq (otp_routeF t a k.route wa (ht.under hbwa) hl);rw[pathR_of];generalize (qaS t k.route).isSome=q at*;generalize qbb t k.route=R at*;obtain⟨ri,rp,rg,rt⟩:=R;dsimp only at*;unfold rtA at H;dsimp only at H;obtain⟨pn,hpn⟩: ∃n,rp.length=n:=⟨_,rfl⟩
 rw[hpn]at H⊢;clear hwa hbwa h0 h1 ht hpn;obtain⟨kr,kt,kn⟩:=k;unfold lcA at*;dsimp only at*;go_enter Tryz.func45,Tryz.ntmps45;go_upto_region 1 with fail;rw[HWA.out];clear HWA;go_wp2_with (with_reducible refine ldZ 8 H0.out ?_);refine H.out.mono ?_;rintro e_ w1 ⟨A,c,hs1,-,rfl,hb1⟩;have HS1:=zq hs1;have HB1:=tB HBWA hb1;clear hs1 hb1 H c0 HBWA;go_upto_region 2 with fail;obtain⟨wb,hwb⟩:=geZ (w1.alloc (.cells #[.int .i64 ri,.slice A pn c,.int .i64 rg,.int .i64 rt] 75));rw[hwb];have hbb:Below w1.heap.size w1 wb:=by rw[<-hwb];exact bA
 have hH:Has wb w1.heap.size 75 #[.int .i64 ri,.slice A pn c,.int .i64 rg,.int .i64 rt]:=by rw[<-hwb];exact Has.made _ _ _
 have e1:wb.cell? ⟨w1.heap.size,1,none⟩=some (.slice A pn c):=hH.cell 1;have HS2:=zq (HS1.out.under hbb);have HB2:=tB HB1 hbb;clear hwb hbb hH HS1 HB1;go_wp2;go_ret
 exact⟨A,c,rfl,HS2.out,HB2.out⟩
theorem qeM (path:List St3)(s:St3)(A:Option Addr)(n c:Nat)(w:World)(hp:SlO stC 2 w A n c path)(hc:n<=c)(hn:n<=1048576):
  Calls Tryz.prog 118 #[.slice A n c,.agg (stA13 s)] w fun r w'=> ∃B m d,r= .returned (.slice B m d)/\SlO stC 2 w' B m d (behS path s)/\m<=d/\Below w.heap.size w w':=by
 obtain⟨wa,hwa,hbwa,HWA,HBWA,h0⟩:=bx1Z w 30 (stA13 s);have HX:=zq h0;have H:=zq (oixs_any path s A n c wa (hp.under hbwa) hn);have HP:=zq (fun W (hW:Below wa.heap.size wa W)=>(hp.under hbwa).under hW);have hl:=hp.1
 rcases qbO (eqS s) path 0 with⟨h1,h2⟩|⟨i,x,h1,h2,h3,h4⟩
 ·rw[show idxL (eqS s) path= -1 from h1]at H
  have HE:=zq (show behS path s=path from beh_none17 fun j y hy=>by rw[qeh];exact h2 j y hy);rw[HE.out];have hCU: ∀W,(Instr.sliceAt 35 (.slice A n c) (some (.int .i64 0)) none none).run Tryz.prog W= .ok (.slice A n c) W:=fun W=>by
   have h_:=qbT (P:=Tryz.prog) 2 35 30 Tryz.underlying35 (by kernel_rfl) A n c 0 (by omega) W;show(Instr.sliceAt 35 (.slice A n c) (some (.int .i64 ((0:Nat):Int))) none none).run Tryz.prog W=_
   rw[h_]
   congr 1
   cases A with
   |none=>simp
   |some a=>simp[Addr.add]
  have HC:=zq hc;clear hwa hbwa h0 hp h1 h2 hl hc HE;go_enter Tryz.func118,Tryz.ntmps118;go_upto_region 1 with fail;rw[HWA.out];clear HWA;go_wp2_with (with_reducible refine ldZ 7 HX.out ?_);refine H.out.mono ?_;rintro e_ w1 ⟨rfl,hb1⟩;have HS1:=zq (HP.out w1 hb1);have HB1:=tB HBWA hb1;clear hb1 H HX HP HBWA;go_wp2;go_ret
  exact⟨A,n,c,rfl,HS1.out,HC.out,HB1.out⟩
 ·have hx:x=s:=((qaX _ _).1 h2).symm
  subst hx;have e0:idxL (eqS x) path=(i:Int):=by unfold idxL;rw[h4];congr 1;omega
  rw[e0]at H;have hi:=(List.getElem?_eq_some_iff.1 h1).1;have HE:=zq (show behS path x=path.drop (i+1)from beh_at17 h1 fun j y hj hy=>by rw[qeh];exact h3 j y hj hy);rw[HE.out];obtain⟨i1,hi1⟩: ∃j,i+1=j:=⟨_,rfl⟩
  have hw1:wrap64 ((i:Int)+1)=(i1:Int):=succ_w hi1 (by omega);rw[hi1];have hin:i1<=n:=by omega
  have HSD:=zq (fun W (hW:Below wa.heap.size wa W)=>((hp.under hbwa).under hW).from17 (fun _=>rfl) hc hin);have hCU:=fun W=>qbT (P:=Tryz.prog) 2 35 30 Tryz.underlying35 (by kernel_rfl) A n c i1 hin W;obtain⟨A1,hA1⟩:=geZ ((if c=i1 then A else A.map (·.add (i1*2))));obtain⟨n1,hn1⟩: ∃m,n-i1=m:=⟨_,rfl⟩
  obtain⟨c1,hc1⟩: ∃m,c-i1=m:=⟨_,rfl⟩
  rw[hA1,hn1,hc1]at HSD;rw[hA1,hn1,hc1]at hCU;have HC:=zq (show n1<=c1 from by omega);clear hwa hbwa h0 hp h1 h2 h3 h4 hl hc HE e0 hi hi1 hin hA1 hn1 hc1 HP;go_enter Tryz.func118,Tryz.ntmps118;go_upto_region 1 with fail;rw[HWA.out];clear HWA;go_wp2_with (with_reducible refine ldZ 7 HX.out ?_);refine H.out.mono ?_;rintro e_ w1 ⟨rfl,hb1⟩;have HS1:=zq (HSD.out w1 hb1);have HB1:=tB HBWA hb1;clear hb1 H HX HSD HBWA;go_wp2;go_ret
  exact⟨A1,n1,c1,rfl,HS1.out,HC.out,HB1.out⟩
theorem qfx (n:Int)(w:World):Calls Tryz.prog 162 #[.int .i64 n] w fun r w'=>r= .returned (.bool (decide (1<=n) &&decide (n<=1000)))/\w'=w:=by
 by_cases h1:1<=n
 ·rw[decide_eq_true h1,Bool.true_and]
  by_cases h2:n<=1000
  ·rw[decide_eq_true h2]
   go_enter Tryz.func162,Tryz.ntmps162;go_wp2;go_ret
   exact⟨rfl,rfl⟩
  ·rw[decide_eq_false h2]
   go_enter Tryz.func162,Tryz.ntmps162;go_wp2;go_ret
   exact⟨rfl,rfl⟩
 ·rw[decide_eq_false h1,Bool.false_and]
  go_enter Tryz.func162,Tryz.ntmps162;go_wp2;go_ret
  exact⟨rfl,rfl⟩
theorem opsects_any (l:List Sc3)(A:Option Addr)(n c:Nat)(w:World)(hs:SlO scC17 2 w A n c l)(hn:n<=1048576):
  Calls Tryz.prog 85 #[.slice A n c] w fun r w'=>r= .returned (.bool (qdB l))/\Below w.heap.size w w':=by
 have HS:=zq hs;have HL:=zq hs.1;have HNB:=zq hn;obtain⟨R,hR⟩:=geZ (qdB l);have HR:=zq hR;rw[hR];clear hs hR hn;go_enter Tryz.func85,Tryz.ntmps85;go_wp2;go_loopg [3,8] n (fun kk v3 v8 wl=> ∃i:Nat,i<=n/\n-i<=kk/\v8= .int .i64 i/\v3= .int .i64 (qbt 0 (l.take i))/\Hid (risB 0 (l.take i)=true)/\Hid (Below w.heap.size w wl))
 case atStart=>exact⟨0,by omega,by omega,rfl,rfl,zq rfl,zq (Below.refl _ _)⟩
 obtain⟨i,hi,hik,rfl,rfl,HRI,HB⟩:=hrel;obtain⟨wv,hwv⟩: ∃wv,wv=wr:=⟨_,rfl⟩
 subst hwv;obtain⟨k1,hk1⟩: ∃k1,k1=gk:=⟨_,rfl⟩
 subst hk1;by_cases hlt:i<n;rotate_left
 ·obtain rfl:i=n:=by omega
  have x1: ¬(i:Int)<i:=by omega
  have HF:=zq (show R=(decide (1<=i) &&decide (i<=8))from by rw[<-HR.out];unfold qdB;have h_:=HRI.out;rw[List.take_of_length_le (by rw[HL.out];exact Nat.le_refl _)]at h_;rw[h_,HL.out,Bool.true_and]);clear hik hi hlt;generalize qbt 0 (l.take i)=lt at*;by_cases z1:1<=i
  ·have z1':(1:Int)<=i:=by omega
   by_cases z2:i<=8
   ·have z2':(i:Int)<=8:=by omega
    obtain rfl:R=true:=by rw[HF.out,decide_eq_true z1,decide_eq_true z2];rfl
    clear z1 z2;go_wp2;go_ret
    exact⟨rfl,HB.out⟩
   ·have z2': ¬(i:Int)<=8:=by omega
    obtain rfl:R=false:=by rw[HF.out,decide_eq_true z1,decide_eq_false z2];rfl
    clear z1 z2;go_wp2;go_ret
    exact⟨rfl,HB.out⟩
  ·have z1': ¬(1:Int)<=i:=by omega
   obtain rfl:R=false:=by rw[HF.out,decide_eq_false z1];rfl
   clear z1;go_wp2;go_ret
   exact⟨rfl,HB.out⟩
 obtain⟨x,hx⟩:=glZ l (i) (by rw[HL.out];exact hlt);obtain⟨bk,off,rfl,d0,d1⟩:=(HS.out.under HB.out).sect hx;have HRX:=zq (ris_at17 hx);have HLX:=zq (last_at_17 hx);obtain⟨lt,hlt_⟩: ∃q,qbt 0 (l.take i)=q:=⟨_,rfl⟩
 rw[hlt_]at HRX⊢;rw[HRI.out,Bool.true_and]at HRX;have y0:(0:Int)<=i:=by omega
 have y1:(i:Int)<n:=by omega
 have HIN:=zq (show i<n/\n-i<=k1 from⟨hlt,hik⟩);clear hx hi hik hlt hlt_;obtain⟨xt,xm⟩:=x;dsimp only at*;go_upto_region 5 with fail;obtain⟨wb,hwb⟩:=geZ (wv.alloc (.cells #[.int .i64 xt,.int .i64 xm] 66));rw[hwb];have hbb:Below wv.heap.size wv wb:=by rw[<-hwb];exact bA
 have hH:Has wb wv.heap.size 66 #[.int .i64 xt,.int .i64 xm]:=by rw[<-hwb];exact Has.made _ _ _
 have HBB:=tB HB hbb;obtain⟨gs,hgs⟩: ∃g,wv.heap.size=g:=⟨_,rfl⟩
 rw[hgs]at hH;simp only[hgs];have c0:wb.cell? ⟨gs,0,none⟩=some (.int .i64 xt):=hH.cell 0;have c1:wb.cell? ⟨gs,1,none⟩=some (.int .i64 xm):=hH.cell 1;have HH:=zq hH;clear hwb hbb hH hgs d0 d1 HB;by_cases z1:xt<=lt
 ·have HF:=zq (show R=false from by rw[<-HR.out];unfold qdB;rw[ris_part17 (i:=i+1) (by rw[HRX.out,decide_eq_false (by omega: ¬lt<xt)];rfl),Bool.false_and])
  go_wp2;go_ret
  exact⟨by rw[HF.out];rfl,HBB.out⟩
 obtain⟨tb,htb⟩: ∃b,(decide (1<=xm) &&decide (xm<=1000))=b:=⟨_,rfl⟩
 have HC:=zq (qfx xm wb);rw[htb]at HC HRX;rw[decide_eq_true (by omega:lt<xt),Bool.true_and]at HRX;clear htb;go_wp2_with fail;refine HC.out.mono ?_;rintro e_ w5 ⟨rfl,rfl⟩
 cases tb with
 |false=>
  have HF:=zq (show R=false from by rw[<-HR.out];unfold qdB;rw[ris_part17 (i:=i+1) HRX.out,Bool.false_and]);go_wp2;go_ret
  exact⟨by rw[HF.out];rfl,HBB.out⟩
 |true=>
  clear c1;go_wp2;go_roundg (k1-1)
  case measure=>have:=HIN.out;omega
  case rel=>exact⟨i+1,by have:=HIN.out;omega,by have:=HIN.out;omega,by first|go_num|(rw[IntWalk.wrap64_in _ (by have h1_:=HIN.out;have h2_:=HNB.out;omega)];go_num),by rw[HLX.out],HRX,HBB⟩
theorem qfy (t:Tp3)(a:TpA)(path:List St3)(A:Option Addr)(n c:Nat)(w:World)(ht:TopR w t a)(hp:SlO stC 2 w A n c path)(hn:n<=100000)(hok:qav t=true)(hed: ∀s∈path,edgeB t s.edge=true):
  Calls Tryz.prog 86 #[.agg (tpC t a),.slice A n c] w fun r w'=>r= .returned (.int .i64 (sumT t path))/\Below w.heap.size w w':=by
 obtain⟨wa,hwa,hbwa,HWA,HBWA,h0⟩:=bx1Z w 27 (tpC t a);have HT:=zq (fun W (hW:Below wa.heap.size wa W)=>(ht.under hbwa).under hW);have H0:=zH h0;have HP:=zq (fun W (hW:Below wa.heap.size wa W)=>(hp.under hbwa).under hW);have HL:=zq hp.1;have HNB:=zq hn;have HED:=zq hed;have HSM:=zq (fun i=>qck hok (path:=path.take i) fun s hs=>hed s (List.mem_of_mem_take hs));have HLA:=zq (fun(s:St3) (hs:s∈path)=>qaT hok (hed s hs));obtain⟨R,hR⟩:=geZ (sumT t path);have HR:=zq hR;rw[hR];clear hwa hbwa h0 ht hp hn hok hed hR;go_enter Tryz.func86,Tryz.ntmps86;go_upto_region 1 with fail;rw[HWA.out];clear HWA;go_wp2;go_loopg [5,10] n (fun kk v5 v10 wl=> ∃i:Nat,i<=n/\n-i<=kk/\v10= .int .i64 i/\v5= .int .i64 (sumT t (path.take i))/\Hid (Below wa.heap.size wa wl))
 case atStart=>exact⟨0,by omega,by omega,rfl,rfl,zq (Below.refl _ _)⟩
 obtain⟨i,hi,hik,rfl,rfl,HB⟩:=hrel;obtain⟨wv,hwv⟩: ∃wv,wv=wr:=⟨_,rfl⟩
 subst hwv;obtain⟨k1,hk1⟩: ∃k1,k1=gk:=⟨_,rfl⟩
 subst hk1;by_cases hlt:i<n;rotate_left
 ·obtain rfl:i=n:=by omega
  have x1: ¬(i:Int)<i:=by omega
  have HF:=zq (show sumT t (path.take i)=R from by rw[List.take_of_length_le (by rw[HL.out];exact Nat.le_refl _)];exact HR.out);rw[HF.out];clear hik hi hlt;go_wp2;go_ret
  exact⟨rfl,HBWA.out.trans (HB.out.mono HBWA.out.size)⟩
 obtain⟨x,hx⟩:=glZ path (i) (by rw[HL.out];exact hlt);have hxm:=List.mem_of_getElem? hx;have HSX:=zq (sum_at17 (t:=t) hx);have HLX:=zq (HLA.out x hxm);have hex:=HED.out x hxm;obtain⟨bk,off,rfl,d0,d1⟩:=(HP.out wv HB.out).step hx;have HSI:=zq (HSM.out i);have hsl:(path.take i).length=i:=by rw[List.length_take,HL.out];omega
 rw[hsl]at HSI;obtain⟨sm,hsm⟩: ∃q,sumT t (path.take i)=q:=⟨_,rfl⟩
 rw[hsm]at HSI HSX⊢;obtain⟨xe,xr⟩:=x;dsimp only at d0 d1 hex;have hx2:0<=xe/\xe<t.edges.length:=by have h_:=hex;unfold edgeB at h_;simpa using h_
 obtain⟨ex,hxe⟩: ∃e:Nat,xe=e:=⟨xe.toNat,by omega⟩
 subst hxe;have hel:ex<t.edges.length:=by omega
 obtain⟨ln,hln⟩: ∃q,t.edges.getD ex 0=q:=⟨_,rfl⟩
 have hlx:lenAt t ⟨(ex:Int),xr⟩=ln:=by unfold lenAt;rw[<-hln];first|rfl|simp
 rw[hlx]at HSX HLX;have HEL:=zq hel;have HLN:=zq hln;have y0:(0:Int)<=i:=by omega
 have y1:(i:Int)<n:=by omega
 have HIN:=zq (show i<n/\n-i<=k1 from⟨hlt,hik⟩);clear hx hi hik hlt hsm hsl hxm hex hx2 hlx hel hln;go_upto_region 5 with fail;obtain⟨wb,hwb⟩:=geZ (wv.alloc (.cells #[.int .i64 (ex:Int),.bool xr] 30));rw[hwb];have hbb:Below wv.heap.size wv wb:=by rw[<-hwb];exact bA
 have hH:Has wb wv.heap.size 30 #[.int .i64 (ex:Int),.bool xr]:=by rw[<-hwb];exact Has.made _ _ _
 have HBB:=tB HB hbb;obtain⟨gs,hgs⟩: ∃g,wv.heap.size=g:=⟨_,rfl⟩
 rw[hgs]at hH;simp only[hgs];have c0:wb.cell? ⟨gs,0,none⟩=some (.int .i64 (ex:Int)):=hH.cell 0;obtain⟨be,oe,hpa_,ce⟩:=(HT.out wb HBB.out).e.edge HEL.out;rw[HLN.out]at ce;have e0:wb.cell? ⟨w.heap.size,0,none⟩=some (.slice (some ⟨be,oe,none⟩) t.edges.length a.ce):=by have h_:=(H0.out wb HBB.out).cell 0;rw[<-hpa_];exact h_
 have y2:(0:Int)<=ex:=by omega
 have y3:(ex:Int)<t.edges.length:=by have:=HEL.out;omega
 have y4: -4000000000000<=sm/\sm<=4000000000000:=by have h1_:=HSI.out;have h2_:=HNB.out;have h3_:=HIN.out;omega
 have y5:1<=ln/\ln<=1000000:=HLX.out;obtain⟨s2,hs2⟩: ∃q,sm+ln=q:=⟨_,rfl⟩
 have hw1:wrap64 (sm+ln)=s2:=by rw[IntWalk.wrap64_in _ (by omega)];exact hs2
 rw[hs2]at HSX;clear hwb hbb hH hgs d0 d1 HB hpa_ hs2 y4 y5;go_wp2;go_roundg (k1-1)
 case measure=>have:=HIN.out;omega
 case rel=>exact⟨i+1,by have:=HIN.out;omega,by have:=HIN.out;omega,by first|go_num|(rw[IntWalk.wrap64_in _ (by have h1_:=HIN.out;have h2_:=HNB.out;omega)];go_num),by rw[HSX.out];first|rfl|rw[hw1],HBB⟩
theorem qdd (t:Tp3)(a:TpA)(path:List St3)(A:Option Addr)(n c:Nat)(w:World)(ht:TopR w t a)(hl:qaH t=true)(hp:SlO stC 2 w A n c path)(hn:n<=1048576)(hc:n<=c):
  Calls Tryz.prog 84 #[.agg (tpC t a),.slice A n c] w fun r w'=>r= .returned (.bool (qdH t path))/\Below w.heap.size w w':=by
 obtain⟨wa,hwa,hbwa,HWA,HBWA,h0⟩:=bx1Z w 27 (tpC t a);have H0:=zq h0;have H:=zq (qeP t a path A n c wa (ht.under hbwa) (hp.under hbwa) hn hl);have HR2:=zq (fun W (hW:Below wa.heap.size wa W)=>oprep_any path A n c W ((hp.under hbwa).under hW) hn hc);have hlen:=hp.1;have HB:=HBWA;unfold qdH;rw[hlen];generalize lenE t path=le at*;generalize qbs path=tw at*;obtain⟨R,hR⟩:=geZ ((decide (le=0) &&(decide (n<=24) &&!tw)));rw[hR];have HR:=zq hR;clear hwa hbwa h0 ht hp hlen hl hR;go_enter Tryz.func84,Tryz.ntmps84;go_upto_region 1 with fail;rw[HWA.out];clear HWA;go_wp2_with (with_reducible refine ldZ 8 H0.out ?_);refine H.out.mono ?_;rintro e_ w1 ⟨N,rfl,hb1⟩;have HB1:=tB HB hb1;have HR3:=zq (HR2.out w1 hb1);clear hb1 H H0 HB HR2 HBWA;by_cases z1:le=0;rotate_left
 ·have q0:(le==0)=false:=by simp[z1]
  obtain rfl:R=false:=by rw[<-HR.out,decide_eq_false z1];rfl
  go_wp2;go_ret
  exact⟨rfl,HB1.out⟩
 subst z1;by_cases z2:n<=24;rotate_left
 ·have z2': ¬(n:Int)<=24:=by omega
  obtain rfl:R=false:=by rw[<-HR.out,decide_eq_false z2];rfl
  go_wp2;go_ret
  exact⟨rfl,HB1.out⟩
 have z2':(n:Int)<=24:=by omega
 obtain rfl:R=!tw:=by rw[<-HR.out,decide_eq_true z2];simp
 clear HR;go_wp2_with fail;refine HR3.out.mono ?_;rintro e_ w2 ⟨rfl,hb2⟩;have HB2:=tB HB1 hb2;clear hb2 HR3;go_wp2;go_ret
 exact⟨rfl,HB2.out⟩
theorem opend_any (m:Ma3)(b:MaA)(w:World)(hs:SlO scC17 2 w b.aq m.sects.length b.cs m.sects)(h1:1<=m.sects.length)(hn:m.sects.length<=1048576):
  Calls Tryz.prog 80 #[.agg (maC m b)] w fun r w'=>r= .returned (.int .i64 (endM m))/\Below w.heap.size w w':=by
 obtain⟨wa,hwa⟩:=geZ (w.alloc (.cells (maC m b) 38));have hbwa:Below w.heap.size w wa:=by rw[<-hwa];exact bA
 have g0:Has wa (w.heap.size) 38 (maC m b):=by rw[<-hwa];exact(Has.made _ _ _)
 have HWA:=zq hwa;have HBWA:=zq hbwa;have HS:=zq (hs.under hbwa);have m3:wa.cell? ⟨w.heap.size,3,none⟩=some (.slice b.aq m.sects.length b.cs):=g0.cell 3;clear hwa hbwa g0 hs;obtain⟨K,hK⟩:=geZ (m.sects.length);obtain⟨s,hk⟩: ∃s,m.sects[K-1]?=some s:=⟨_,List.getElem?_eq_getElem (by omega)⟩
 rw[end17 (i:=K-1) (by omega) hk];obtain⟨bk,off,ha,d0,-⟩:=HS.out.sect hk;rw[ha,hK]at m3;have hK1:1<=K:=by omega
 have hK2:K<=1048576:=by omega
 have y3:(0:Int)<=(K:Int)-1:=by omega
 have y4:(K:Int)-1<K:=by omega
 have y5:((K:Int)-1).toNat=K-1:=by omega
 have y6:(1:Int)<=K:=by omega
 clear HS hk ha h1 hn hK;generalize s.to_=to_ at*;go_enter Tryz.func80,Tryz.ntmps80;go_upto_region 1 with fail;rw[HWA.out];go_wp2;go_ret
 exact⟨rfl,HBWA.out⟩
theorem qfw (rev:Bool)(w:World):Calls Tryz.prog 82 #[.bool rev] w fun r w'=>r= .returned (.int .i64 (dirB rev))/\w'=w:=by
 cases rev with
 |true=>
  go_enter Tryz.func82,Tryz.ntmps82;go_wp2;go_ret
  exact⟨rfl,rfl⟩
 |false=>
  go_enter Tryz.func82,Tryz.ntmps82;go_wp2;go_ret
  exact⟨rfl,rfl⟩
theorem opn_reach (m:Ma3)(b:MaA)(age:Int)(w:World)(hm:MaR w m b)(_:m.path.length<=100)(hk:m.sects.length<=100):Calls Tryz.prog 31 #[.agg (maC m b),.int .i64 age] w fun r w'=>r= .returned (.int .i64 (reachM m age))/\Below w.heap.size w w':=by
 obtain⟨wa,hwa,hbwa,HWA,HBWA,h0⟩:=bx1Z w 38 (maC m b);have HS:=zq (fun W (hW:Below wa.heap.size wa W)=>(hm.sects.under hbwa).under hW);have m3:wa.cell? ⟨w.heap.size,3,none⟩=some (.slice b.aq m.sects.length b.cs):=h0.cell 3;obtain⟨R,hR⟩:=geZ (reachM m age);have HR:=zq (show qdJ age 0 m.sects=R from hR);rw[hR];generalize m.sects=l at*;obtain⟨n,hn⟩:=geZ (l.length);rw[hn]at m3 HS hk;obtain⟨A,hA⟩:=geZ (b.aq);rw[hA]at m3 HS;clear hA;have HL:=zq hn;have HNB:=zq hk;clear hwa hbwa h0 hm hR hn hk;go_enter Tryz.func31,Tryz.ntmps31;go_upto_region 1 with fail;rw[HWA.out];clear HWA;go_wp2;clear m3;go_loopg [5,11] n (fun kk v5 v11 wl=> ∃(i:Nat) (x:Int),i<=n/\n-i<=kk/\v11= .int .i64 i/\v5= .int .i64 x/\Hid (qdJ age x (l.drop i)=R)/\Hid (Below wa.heap.size wa wl))
 case atStart=>exact⟨0,0,by omega,by omega,rfl,rfl,HR,zq (Below.refl _ _)⟩
 obtain⟨i,xv,hi,hik,rfl,rfl,HRI,HB⟩:=hrel;obtain⟨wv,hwv⟩: ∃wv,wv=wr:=⟨_,rfl⟩
 subst hwv;obtain⟨k1,hk1⟩: ∃k1,k1=gk:=⟨_,rfl⟩
 subst hk1;by_cases hlt:i<n;rotate_left
 ·obtain rfl:i=n:=by omega
  have x1: ¬(i:Int)<i:=by omega
  obtain rfl:xv=R:=by have h_:=HRI.out;rw[List.drop_of_length_le (by rw[HL.out];exact Nat.le_refl _)]at h_;exact h_
  clear hik hi hlt;go_wp2;go_ret
  exact⟨rfl,HBWA.out.trans (HB.out.mono HBWA.out.size)⟩
 obtain⟨x,hx⟩:=glZ l (i) (by rw[HL.out];exact hlt);obtain⟨bk,off,rfl,d0,d1⟩:=(HS.out wv HB.out).sect hx;have HRX:=zq ((reach_at17 (age:=age) (n:=xv) hx).symm.trans HRI.out);have y0:(0:Int)<=i:=by omega
 have y1:(i:Int)<n:=by omega
 have HIN:=zq (show i<n/\n-i<=k1 from⟨hlt,hik⟩);clear hx hi hik hlt HRI;obtain⟨xt,xm⟩:=x;dsimp only at*;go_upto_region 5 with fail;obtain⟨wb,hwb⟩:=geZ (wv.alloc (.cells #[.int .i64 xt,.int .i64 xm] 66));rw[hwb];have hbb:Below wv.heap.size wv wb:=by rw[<-hwb];exact bA
 have hH:Has wb wv.heap.size 66 #[.int .i64 xt,.int .i64 xm]:=by rw[<-hwb];exact Has.made _ _ _
 have HBB:=tB HB hbb;obtain⟨gs,hgs⟩: ∃g,wv.heap.size=g:=⟨_,rfl⟩
 rw[hgs]at hH;simp only[hgs];have c0:wb.cell? ⟨gs,0,none⟩=some (.int .i64 xt):=hH.cell 0;have c1:wb.cell? ⟨gs,1,none⟩=some (.int .i64 xm):=hH.cell 1;clear hwb hbb hH hgs d0 d1 HB;by_cases z1:age<xm
 ·rw[if_pos z1]at HRX
  have z1': ¬xm<=age:=by omega
  go_wp2;go_roundg (k1-1)
  case measure=>have:=HIN.out;omega
  case rel=>exact⟨i+1,xt,by have:=HIN.out;omega,by have:=HIN.out;omega,by first|go_num|(rw[IntWalk.wrap64_in _ (by have h1_:=HIN.out;have h2_:=HNB.out;omega)];go_num),rfl,HRX,HBB⟩
 ·rw[if_neg z1]at HRX
  have z1':xm<=age:=by omega
  obtain rfl:xv=R:=HRX.out;go_wp2;go_ret
  exact⟨rfl,HBWA.out.trans (HBB.out.mono HBWA.out.size)⟩
end
section
open Go.Shelf
open Go.RowKit
def qeT:Go.Shelf.Ren:=⟨fun|6=>157|15=>199|14=>198|28=>231|29=>232|20=>223|21=>224|22=>225|23=>226|24=>227|25=>228|26=>229|27=>230|46=>253|47=>254|48=>255|49=>256|50=>257|57=>267|n=>n,fun|22=>205|24=>209|25=>210|3=>3|39=>243|0=>0|53=>272|55=>274|4=>4|46=>265|45=>264|50=>269|5=>5|9=>9|66=>287|70=>291|76=>299|77=>61|n=>n,fun|n=>n⟩
theorem sortBd15:Go.Proofs.SlLaysF0.n6 Tryz.prog qeT:= {
 mixed:=by kernel_rfl
 f6:=⟨Tryz.f157.name,by decide,Tryz.func157.trans (congrArg some (by kernel_rfl))⟩
 f14:=⟨Tryz.f198.name,by decide,Tryz.func198.trans (congrArg some (by kernel_rfl))⟩
 f15:=Tryz.func199.trans (congrArg some (by kernel_rfl))
 f20:=⟨Tryz.f223.name,by decide,Tryz.func223.trans (congrArg some (by kernel_rfl))⟩
 f21:=⟨Tryz.f224.name,by decide,Tryz.func224.trans (congrArg some (by kernel_rfl))⟩
 f22:=⟨Tryz.f225.name,by decide,Tryz.func225.trans (congrArg some (by kernel_rfl))⟩
 f23:=⟨Tryz.f226.name,by decide,Tryz.func226.trans (congrArg some (by kernel_rfl))⟩
 f24:=⟨Tryz.f227.name,by decide,Tryz.func227.trans (congrArg some (by kernel_rfl))⟩
 f25:=⟨Tryz.f228.name,by decide,Tryz.func228.trans (congrArg some (by kernel_rfl))⟩
 f26:=⟨Tryz.f229.name,by decide,Tryz.func229.trans (congrArg some (by kernel_rfl))⟩
 f27:=⟨Tryz.f230.name,by decide,Tryz.func230.trans (congrArg some (by kernel_rfl))⟩
 f28:=Tryz.func231.trans (congrArg some (by kernel_rfl))
 f29:=Tryz.func232.trans (congrArg some (by kernel_rfl))
 f46:=⟨Tryz.f253.name,by decide,Tryz.func253.trans (congrArg some (by kernel_rfl))⟩
 f47:=Tryz.func254.trans (congrArg some (by kernel_rfl))
 f48:=Tryz.func255.trans (congrArg some (by kernel_rfl))
 f49:=⟨Tryz.f256.name,by decide,Tryz.func256.trans (congrArg some (by kernel_rfl))⟩
 f50:=⟨Tryz.f257.name,by decide,Tryz.func257.trans (congrArg some (by kernel_rfl))⟩
 f57:=⟨Tryz.f267.name,by decide,Tryz.func267.trans (congrArg some (by kernel_rfl))⟩
 t0:=Tryz.underlying0
 a0:=Tryz.isAgg0
 z0:=Tryz.sizeOf0
 v0:=Tryz.zeroValue0
 t3:=Tryz.underlying3
 a3:=Tryz.isAgg3
 z3:=Tryz.sizeOf3
 v3:=Tryz.zeroValue3
 t4:=Tryz.underlying4
 a4:=Tryz.isAgg4
 z4:=Tryz.sizeOf4
 v4:=Tryz.zeroValue4
 t5:=Tryz.underlying5
 a5:=Tryz.isAgg5
 z5:=Tryz.sizeOf5
 v5:=Tryz.zeroValue5
 t9:=Tryz.underlying9
 a9:=Tryz.isAgg9
 z9:=Tryz.sizeOf9
 v9:=Tryz.zeroValue9
 t22:=Tryz.underlying205
 a22:=Tryz.isAgg205
 z22:=Tryz.sizeOf205
 v22:=Tryz.zeroValue205
 t25:=Tryz.underlying210
 a25:=Tryz.isAgg210
 z25:=Tryz.sizeOf210
 v25:=Tryz.zeroValue210
 t39:=Tryz.underlying243
 a39:=Tryz.isAgg243
 z39:=Tryz.sizeOf243
 v39:=Tryz.zeroValue243
 t45:=Tryz.underlying264
 a45:=Tryz.isAgg264
 z45:=Tryz.sizeOf264
 v45:=Tryz.zeroValue264
 t46:=Tryz.underlying265
 a46:=Tryz.isAgg265
 z46:=Tryz.sizeOf265
 v46:=Tryz.zeroValue265
 t50:=Tryz.underlying269
 a50:=Tryz.isAgg269
 z50:=Tryz.sizeOf269
 v50:=Tryz.zeroValue269
 t53:=Tryz.underlying272
 a53:=Tryz.isAgg272
 z53:=Tryz.sizeOf272
 v53:=Tryz.zeroValue272
 t55:=Tryz.underlying274
 a55:=Tryz.isAgg274
 z55:=Tryz.sizeOf274
 v55:=Tryz.zeroValue274
 t66:=Tryz.underlying287
 a66:=Tryz.isAgg287
 z66:=Tryz.sizeOf287
 v66:=Tryz.zeroValue287
 t70:=Tryz.underlying291
 a70:=Tryz.isAgg291
 z70:=Tryz.sizeOf291
 v70:=Tryz.zeroValue291
 t76:=Tryz.underlying299
 a76:=Tryz.isAgg299
 z76:=Tryz.sizeOf299
 v76:=Tryz.zeroValue299
 t77:=Tryz.underlying61
 a77:=Tryz.isAgg61
 z77:=Tryz.sizeOf61
 v77:=Tryz.zeroValue61}
end
section
open Go.RowKit
open Go.Great
open Go.Sort (putRowK HoldsK size_putRowK alloc_eq_grow grow_grow flatK get_flatK)
instance : Inhabited Bd4 := ⟨⟨0, 0, 0, 0⟩⟩
theorem qeZ (x y:Bd4):ltOf cmpBd x y=befB x y:=by
 obtain⟨a,b,p,q⟩:=x;obtain⟨c,d,r,s⟩:=y;rw[Bool.eq_iff_iff,qdN];unfold ltOf cmpBd qeF;dsimp only;rw[decide_eq_true_eq]
 constructor
 ·intro h
  split at h<;>split at h<;>(try split at h)<;>(try split at h)<;>omega
 ·intro h
  split<;>split<;>(try split)<;>(try split)<;>omega
theorem swo_cmpBd:Go.Sort.SWO (ltOf cmpBd) where
 irrefl x:=by
  rw[qeZ,<-Bool.not_eq_true,qdN];omega
 trans x y z h1 h2:=by
  rw[qeZ,qdN]at*;omega
 ntrans x y z h1 h2:=by
  rw[qeZ,<-Bool.not_eq_true,qdN]at*;omega
theorem cmpLays15 (b off size:Nat)(w:World):CmpLays Tryz.prog 158 #[] bdC 4 cmpBd b off size w:=fun m os dk _ x y=>
 (oscmp_any x y (sortWorldK bdC 4 w b off m dk os)).mono fun _ _ h=>h
theorem sorted_only15 (w:World)(b off n:Nat)(d:Array Bd4)(os:Array Obj):w.grownBy (sortWorldK bdC 4 w b off n d os) (some b):=by
 have hs:(putRowK bdC 4 (Go.Sort.ahead w n) b off d).heap.size=w.heap.size:=size_putRowK _ _ _ _ _ _;refine⟨rfl,rfl,rfl,?_,fun i hi hne=>?_⟩
 ·show w.heap.size<=((putRowK bdC 4 (Go.Sort.ahead w n) b off d).heap++os).size
  rw[Array.size_append,hs];omega
 ·show((putRowK bdC 4 (Go.Sort.ahead w n) b off d).heap++os)[i]?=w.heap[i]?
  rw[Array.getElem?_append_left (by rw[hs];exact hi)];show(w.heap.modify b _)[i]?=w.heap[i]?
  rw[Array.getElem?_modify,if_neg (fun e=>hne (by rw[e]))]
theorem qfG (off:Nat)(d c:Array Value):(Go.Sort.putCells id off d c).size=c.size:=by
 simp[Go.Sort.putCells]
theorem sorted_has (w:World)(b n:Nat)(d:Array Bd4)(os:Array Obj){t:TypeId}{cur:Array Value}(h:Has w b t cur): ∃cur',Has (sortWorldK bdC 4 w b 0 n d os) b t cur'/\cur'.size=cur.size:=by
 have hb:=h.lt;refine⟨Go.Sort.putCells id 0 (flatK bdC 4 d) cur,?_,qfG _ _ _⟩;unfold Has at h⊢;show((putRowK bdC 4 (Go.Sort.ahead w n) b 0 d).heap++os)[b]?=_
 rw[Array.getElem?_append_left (by rw[size_putRowK];exact hb)];show(w.heap.modify b (Go.Sort.onCells _))[b]?=_
 rw[Array.getElem?_modify,if_pos rfl,h]
 rfl
theorem qgg (l:List Bd4)(j:Nat)(hj:j<l.length*4):(l.flatMap bdC)[j]?=some (flatK bdC 4 l.toArray)[j]!:=by
 have h1:j/4<l.length:=by omega
 have h2:=qfg (f:=bdC) (k:=4) (fun _=>rfl) (List.getElem?_eq_getElem h1) (i:=j %4) (by omega)
 rw[show j/4*4+j %4=j by omega]at h2;rw[h2,get_flatK _ _ _ _ (by simpa using hj)];have h3:l.toArray[j/4]! =l[j/4]:=by rw[getElem!_pos l.toArray (j/4) (by simpa using h1)];simp
 rw[h3]
 rcases(show j %4=0\/j %4=1\/j %4=2\/j %4=3 by omega)with h|h|h|h<;>rw[h]<;>rfl
theorem qfY {w:World}{base g n c:Nat}{l:List Bd4}(h:OwR bdC 4 209 base w (some ⟨g,0,none⟩) n c l):HoldsK bdC 4 w g 0 l.toArray:=by
 intro j hj;have hj':j<l.length*4:=by simpa using hj
 refine⟨?_,?_⟩
 ·have:=(Sl.of_own h.1).2.2 _ rfl j _ (qgg l j hj')
  rw[show((⟨g,0,none⟩:Addr).add j)=⟨g,0+j,none⟩ by simp[Addr.add];exact fun h=>h.symm]at this;exact this
 ·obtain⟨g',cur,e,_,hb,_⟩:=h.has
  cases e
  exact hb.thaw _
theorem ossort_any (l:List Bd4)(b base n c:Nat)(w:World)(ho:OwR bdC 4 209 base w (some ⟨b,0,none⟩) n c l)(hn:n<=1048576):
  Calls Tryz.prog 157 #[.slice (some ⟨b,0,none⟩) n c,.func (.func 158) #[] #[]] w fun e w'=>e= .returned (.tuple #[])/\ ∃l':List Bd4,l'.Perm l/\l'.Pairwise (fun x y=>befB y x=false)/\OwR bdC 4 209 base w' (some ⟨b,0,none⟩) n c l'/\w.grownBy w' (some b):=by
 have eg: ∀args w,(callFunc 158 args).run Tryz.prog w= .ok (.enter 158 args) w:=enters_of Tryz.func158 (by kernel_rfl) rfl;have hH:=qfY ho;have hbl:b<w.heap.size:=ho.lt rfl;have hle:l.length=n:=ho.2;have hcon:=AnyQ.slices_SortFunc sortBd15 4 Tryz.isAgg209 Tryz.sizeOf209 bdC (fun _=>rfl) (fun x v hv=>by unfold bdC at hv;simp at hv;rcases hv with rfl|rfl|rfl|rfl<;>rfl) cmpBd swo_cmpBd 158 #[] b 0 c l.toArray w eg (cmpLays15 b 0 l.toArray.size w) hH hbl (by simp;omega)
 change Calls Tryz.prog 157 _ _ _ at hcon
 rw[List.size_toArray,hle]at hcon;refine hcon.mono ?_;rintro e w' ⟨rfl,d',m,os,⟨h1,_,h3⟩,h4,rfl⟩;have e1:d'.toList.length=l.length:=by simpa using h1
 have hg:=sorted_only15 w b 0 m d' os;refine⟨rfl,d'.toList,?_,?_,?_,hg⟩
 ·have h5:(List.take n d'.toList).Perm (List.take n l):=by simpa[hle]using h3
  rwa [List.take_of_length_le (by omega),List.take_of_length_le (by omega)]at h5
 ·rw[List.pairwise_iff_getElem]
  intro i j hi hj hij;have:=h4 i j (Nat.zero_le _) hij (by
                      have e1:d'.size=l.length:=by simpa using h1
                      have e2:j<d'.size:=by simpa using hj
                      omega)
  rw[qeZ]at this;rw[getElem!_pos d' j (by simpa using hj),getElem!_pos d' i (by simpa using hi)]at this
  simpa using this
 ·obtain⟨g',cur,e,hbase,hb,hnc,hcm,hcs,_⟩:=ho.has
  cases e
  obtain⟨cur',hc',hsz⟩:=sorted_has w b m d' os hb;have hH2:HoldsK bdC 4 (sortWorldK bdC 4 w b 0 m d' os) b 0 d'.toList.toArray:=by
   rw[Array.toArray_toList];exact(show SWK bdC 4 w b 0 d' _ from⟨m,os,rfl⟩).holds hbl hH h1
  have hfl:(d'.toList.flatMap bdC).length=n*4:=by rw[qbx (f:=bdC) (k:=4) (fun _=>rfl),e1,hle]
  refine⟨⟨hfl,.inr ⟨b,c,cur',rfl,hbase,hc',hnc,hcm,by rw[hsz,hcs],?_⟩⟩,by rw[e1,hle]⟩;refine List.ext_getElem? fun j=>?_;by_cases hj:j<n*4
  ·have hj2:j<d'.toList.length*4:=by rw[e1,hle];exact hj
   rw[List.getElem?_take_of_lt hj,qgg _ j hj2];have:=(hH2 j (by simpa using hj2)).1;rw[hc'.cell,Nat.zero_add]at this;rw[Array.getElem?_toList,this]
   rfl
  ·rw[List.getElem?_eq_none (by simp;omega),List.getElem?_eq_none (by rw[hfl];omega)]
theorem osins_none (p:Option Addr)(c:Nat)(fv:Value)(w:World):
  Calls Tryz.prog 223 #[.slice p 0 c,.int .i64 0,.int .i64 0,fv] w fun e w'=>e= .returned (.tuple #[])/\w'=w:=by
 go_enter Tryz.func223,Tryz.ntmps223;go_wp2;refine wp_loop_rounds 1 ?_;rw[rounds_succ];go_wp2;go_end0
 exact⟨rfl,rfl⟩
theorem ospdq_none (p:Option Addr)(c:Nat)(lim:Int)(fv:Value)(w:World):
  Calls Tryz.prog 198 #[.slice p 0 c,.int .i64 0,.int .i64 0,.int .i64 lim,fv] w fun e w'=>e= .returned (.tuple #[])/\w'=w:=by
 have H:=zq (fun W=>osins_none p c fv W);go_enter Tryz.func198,Tryz.ntmps198;go_wp2;refine wp_loop_rounds 1 ?_;rw[rounds_succ];go_wp2_with fail;refine(H.out _).mono ?_;rintro e w' ⟨rfl,rfl⟩;go_wp2
 (try simp only[Exit.inBlock,Exit.then])
 refine bodyPost_ret (results_none rfl _ _ _) rfl ?_;exact⟨rfl,rfl⟩
theorem ossort_none (p:Option Addr)(c:Nat)(fv:Value)(w:World):
  Calls Tryz.prog 157 #[.slice p 0 c,fv] w fun e w'=>e= .returned (.tuple #[])/\w'=w:=by
 have HL:Hid (∀W,Calls Tryz.prog 199 #[.int .u64 0] W fun e w'=>e= .returned (.int .i64 (Go.Lib.bitLen 0:Nat))/\w'=W):=zq fun W=>Any.bits_Len (SlLaysF0.n15.bits (P:=Tryz.prog) (ρ:=qeT) {sortBd15 with}) 0 W (by omega) (by omega);have HP:=zq (fun lim W=>ospdq_none p c lim fv W);go_enter Tryz.func157,Tryz.ntmps157;go_wp2_with fail;refine(HL.out _).mono ?_;rintro e w' ⟨rfl,rfl⟩;go_wp2_with fail;refine(HP.out _ _).mono ?_;rintro e w' ⟨rfl,rfl⟩;go_wp2;go_end0
 exact⟨rfl,rfl⟩
end
end Go.Proofs.YtahadmeilajdgaaGreatDoor
