/-
  Our own text, joined.
-/
import Derived.Shelf.SlSortCmp.WholeK
import Derived.Test.YtahadmeilajdgaaGreatDoorMrag
import Derived.Test.YtahadmeilajdgaaGreatDoorMraa
import Derived.Test.YtahadmeilajdgaaGreatDoorMraj
import Derived.Test.YtahadmeilajdgaaGreatDoorMrai
import Derived.Test.YtahadmeilajdgaaGreatDoorMrae
import Derived.BigQuiet
import Derived.IntWalk
import Derived.WalkMore
import Derived.Test.YtahadmeilajdgaaGreatDoorMrad
import Derived.ProofKit
import Derived.OpenShut
import Derived.Deep.Slices
import Derived.Lib.SmallJoins
import Derived.ChangeArms
namespace Go.Proofs.YtahadmeilajdgaaGreatDoor
set_option maxRecDepth 100000
set_option maxHeartbeats 8000000
section
open Go.Shelf
open Go.RowKit
def qe2:Go.Shelf.Ren:=⟨fun|6=>168|15=>199|14=>204|28=>231|29=>232|20=>234|21=>235|22=>236|23=>237|24=>238|25=>239|26=>240|27=>241|46=>258|47=>254|48=>255|49=>259|50=>260|57=>268|n=>n,fun|22=>35|24=>30|25=>145|3=>3|39=>243|0=>0|53=>272|55=>274|4=>4|46=>265|45=>264|50=>269|5=>5|9=>9|66=>287|70=>291|76=>299|77=>61|n=>n,fun|n=>n⟩
theorem sortSt13:Go.Proofs.SlLaysF0.n6 Tryz.prog qe2:= {
 mixed:=by kernel_rfl
 f6:=⟨Tryz.f168.name,by decide,Tryz.func168.trans (congrArg some (by kernel_rfl))⟩
 f14:=⟨Tryz.f204.name,by decide,Tryz.func204.trans (congrArg some (by kernel_rfl))⟩
 f15:=Tryz.func199.trans (congrArg some (by kernel_rfl))
 f20:=⟨Tryz.f234.name,by decide,Tryz.func234.trans (congrArg some (by kernel_rfl))⟩
 f21:=⟨Tryz.f235.name,by decide,Tryz.func235.trans (congrArg some (by kernel_rfl))⟩
 f22:=⟨Tryz.f236.name,by decide,Tryz.func236.trans (congrArg some (by kernel_rfl))⟩
 f23:=⟨Tryz.f237.name,by decide,Tryz.func237.trans (congrArg some (by kernel_rfl))⟩
 f24:=⟨Tryz.f238.name,by decide,Tryz.func238.trans (congrArg some (by kernel_rfl))⟩
 f25:=⟨Tryz.f239.name,by decide,Tryz.func239.trans (congrArg some (by kernel_rfl))⟩
 f26:=⟨Tryz.f240.name,by decide,Tryz.func240.trans (congrArg some (by kernel_rfl))⟩
 f27:=⟨Tryz.f241.name,by decide,Tryz.func241.trans (congrArg some (by kernel_rfl))⟩
 f28:=Tryz.func231.trans (congrArg some (by kernel_rfl))
 f29:=Tryz.func232.trans (congrArg some (by kernel_rfl))
 f46:=⟨Tryz.f258.name,by decide,Tryz.func258.trans (congrArg some (by kernel_rfl))⟩
 f47:=Tryz.func254.trans (congrArg some (by kernel_rfl))
 f48:=Tryz.func255.trans (congrArg some (by kernel_rfl))
 f49:=⟨Tryz.f259.name,by decide,Tryz.func259.trans (congrArg some (by kernel_rfl))⟩
 f50:=⟨Tryz.f260.name,by decide,Tryz.func260.trans (congrArg some (by kernel_rfl))⟩
 f57:=⟨Tryz.f268.name,by decide,Tryz.func268.trans (congrArg some (by kernel_rfl))⟩
 t0:=Tryz.underlying0
 a0:=Tryz.isAgg0
 z0:=Tryz.sizeOf0
 v0:=Tryz.zeroValue0
 t3:=Tryz.underlying3
 a3:=Tryz.isAgg3
 z3:=Tryz.sizeOf3
 v3:=Tryz.zeroValue3
 t4:=Tryz.underlying4
 a4:=Tryz.isAgg4
 z4:=Tryz.sizeOf4
 v4:=Tryz.zeroValue4
 t5:=Tryz.underlying5
 a5:=Tryz.isAgg5
 z5:=Tryz.sizeOf5
 v5:=Tryz.zeroValue5
 t9:=Tryz.underlying9
 a9:=Tryz.isAgg9
 z9:=Tryz.sizeOf9
 v9:=Tryz.zeroValue9
 t22:=Tryz.underlying35
 a22:=Tryz.isAgg35
 z22:=Tryz.sizeOf35
 v22:=Tryz.zeroValue35
 t25:=Tryz.underlying145
 a25:=Tryz.isAgg145
 z25:=Tryz.sizeOf145
 v25:=Tryz.zeroValue145
 t39:=Tryz.underlying243
 a39:=Tryz.isAgg243
 z39:=Tryz.sizeOf243
 v39:=Tryz.zeroValue243
 t45:=Tryz.underlying264
 a45:=Tryz.isAgg264
 z45:=Tryz.sizeOf264
 v45:=Tryz.zeroValue264
 t46:=Tryz.underlying265
 a46:=Tryz.isAgg265
 z46:=Tryz.sizeOf265
 v46:=Tryz.zeroValue265
 t50:=Tryz.underlying269
 a50:=Tryz.isAgg269
 z50:=Tryz.sizeOf269
 v50:=Tryz.zeroValue269
 t53:=Tryz.underlying272
 a53:=Tryz.isAgg272
 z53:=Tryz.sizeOf272
 v53:=Tryz.zeroValue272
 t55:=Tryz.underlying274
 a55:=Tryz.isAgg274
 z55:=Tryz.sizeOf274
 v55:=Tryz.zeroValue274
 t66:=Tryz.underlying287
 a66:=Tryz.isAgg287
 z66:=Tryz.sizeOf287
 v66:=Tryz.zeroValue287
 t70:=Tryz.underlying291
 a70:=Tryz.isAgg291
 z70:=Tryz.sizeOf291
 v70:=Tryz.zeroValue291
 t76:=Tryz.underlying299
 a76:=Tryz.isAgg299
 z76:=Tryz.sizeOf299
 v76:=Tryz.zeroValue299
 t77:=Tryz.underlying61
 a77:=Tryz.isAgg61
 z77:=Tryz.sizeOf61
 v77:=Tryz.zeroValue61}
end
section
open Go.RowKit
open Go.Great
open Go.Sort (putRowK HoldsK size_putRowK alloc_eq_grow grow_grow)
instance : Inhabited St3 := ⟨⟨0, false⟩⟩
def befS (x y:St3):Bool:=decide (x.edge<y.edge)||((x.edge==y.edge) &&(!x.rev &&y.rev))
theorem lt_cmpS (x y:St3):ltOf cmpS x y=befS x y:=by
 obtain⟨a,b⟩:=x;obtain⟨c,d⟩:=y;unfold ltOf cmpS ltS eqS befS;dsimp only;by_cases h1:a<c
 ·have h2:(a==c)=false:=by simp;omega
  rw[decide_eq_true h1,h2];simp
 ·by_cases h2:a=c
  ·subst h2
   cases b<;>cases d<;>simp
  ·have h3:(a==c)=false:=by simp[h2]
   rw[decide_eq_false h1,h3];simp
theorem qgB (x y:St3):befS x y=true↔x.edge<y.edge\/(x.edge=y.edge/\x.rev=false/\y.rev=true):=by
 unfold befS;simp
theorem qdW (x y:St3):befS x y=false↔ ¬(x.edge<y.edge\/(x.edge=y.edge/\x.rev=false/\y.rev=true)):=by
 rw[<-qgB];simp
theorem swo_cmpS:Go.Sort.SWO (ltOf cmpS) where
 irrefl x:=by rw[lt_cmpS,qdW];cases x.rev<;>simp
 trans x y z h1 h2:=by
  rw[lt_cmpS,qgB]at*;obtain⟨a,b⟩:=x;obtain⟨c,d⟩:=y;obtain⟨e,f⟩:=z;dsimp only at*
  cases b<;>cases d<;>cases f<;>simp at* <;>omega
 ntrans x y z h1 h2:=by
  rw[lt_cmpS,qdW]at*;obtain⟨a,b⟩:=x;obtain⟨c,d⟩:=y;obtain⟨e,f⟩:=z;dsimp only at*
  cases b<;>cases d<;>cases f<;>simp at* <;>omega
theorem cmpLays13 (b off size:Nat)(w:World):CmpLays Tryz.prog 97 #[] stC 2 cmpS b off size w:=fun m os dk _ x y=>
 (otcmp_any x y (sortWorldK stC 2 w b off m dk os)).mono fun e w' ⟨he,hw⟩=>by
  subst hw;exact⟨he,0,_,by rw[alloc_eq_grow,alloc_eq_grow,grow_grow];rfl⟩
theorem sorted_only (w:World)(b off n:Nat)(d:Array St3)(os:Array Obj):w.grownBy (sortWorldK stC 2 w b off n d os) (some b):=by
 have hs:(putRowK stC 2 (Go.Sort.ahead w n) b off d).heap.size=w.heap.size:=size_putRowK _ _ _ _ _ _;refine⟨rfl,rfl,rfl,?_,fun i hi hne=>?_⟩
 ·show w.heap.size<=((putRowK stC 2 (Go.Sort.ahead w n) b off d).heap++os).size
  rw[Array.size_append,hs];omega
 ·show((putRowK stC 2 (Go.Sort.ahead w n) b off d).heap++os)[i]?=w.heap[i]?
  rw[Array.getElem?_append_left (by rw[hs];exact hi)];show(w.heap.modify b _)[i]?=w.heap[i]?
  rw[Array.getElem?_modify,if_neg (fun e=>hne (by rw[e]))]
theorem otsort_any (l:List St3)(b off c:Nat)(w:World)(hH:HoldsK stC 2 w b off l.toArray)(hb:b<w.heap.size)(hn:l.length<=1048576):
  Calls Tryz.prog 168 #[.slice (some ⟨b,off,none⟩) l.length c,.func (.func 97) #[] #[]] w fun e w'=>e= .returned (.tuple #[])/\ ∃l':List St3,l'.Perm l/\l'.Pairwise (fun x y=>befS y x=false)/\HoldsK stC 2 w' b off l'.toArray/\w.grownBy w' (some b):=by
 have eg: ∀args w,(callFunc 97 args).run Tryz.prog w= .ok (.enter 97 args) w:=enters_of Tryz.func97 (by kernel_rfl) rfl;have hcon:=AnyQ.slices_SortFunc sortSt13 2 Tryz.isAgg30 Tryz.sizeOf30 stC (fun _=>rfl) (fun x v hv=>by unfold stC at hv;simp at hv;rcases hv with rfl|rfl<;>rfl) cmpS swo_cmpS 97 #[] b off c l.toArray w eg (cmpLays13 b off l.toArray.size w) hH hb (by simp;omega)
 change Calls Tryz.prog 168 _ _ _ at hcon
 rw[List.size_toArray]at hcon;refine hcon.mono ?_;rintro e w' ⟨rfl,d',n,os,⟨h1,_,h3⟩,h4,rfl⟩;refine⟨rfl,d'.toList,?_,?_,?_,sorted_only _ _ _ _ _ _⟩
 ·have e1:d'.toList.length=l.length:=by simpa using h1
  have h5:(List.take l.length d'.toList).Perm l:=by simpa using h3
  rwa [List.take_of_length_le (by omega)]at h5
 ·rw[List.pairwise_iff_getElem]
  intro i j hi hj hij;have:=h4 i j (Nat.zero_le _) hij (by
                      have e1:d'.size=l.length:=by simpa using h1
                      have e2:j<d'.size:=by simpa using hj
                      omega)
  rw[lt_cmpS]at this;rw[getElem!_pos d' j (by simpa using hj),getElem!_pos d' i (by simpa using hi)]at this
  simpa using this
 ·rw[Array.toArray_toList]
  exact(show SWK stC 2 w b off d' _ from⟨n,os,rfl⟩).holds hb hH h1
theorem otins_none (p:Option Addr)(c:Nat)(fv:Value)(w:World):
  Calls Tryz.prog 234 #[.slice p 0 c,.int .i64 0,.int .i64 0,fv] w fun e w'=>e= .returned (.tuple #[])/\w'=w:=by
 go_enter Tryz.func234,Tryz.ntmps234;go_wp2;refine wp_loop_rounds 1 ?_;rw[rounds_succ];go_wp2;go_end0
 exact⟨rfl,rfl⟩
theorem otpdq_none (p:Option Addr)(c:Nat)(lim:Int)(fv:Value)(w:World):
  Calls Tryz.prog 204 #[.slice p 0 c,.int .i64 0,.int .i64 0,.int .i64 lim,fv] w fun e w'=>e= .returned (.tuple #[])/\w'=w:=by
 have H:=zq (fun W=>otins_none p c fv W);go_enter Tryz.func204,Tryz.ntmps204;go_wp2;refine wp_loop_rounds 1 ?_;rw[rounds_succ];go_wp2_with fail;refine(H.out _).mono ?_;rintro e w' ⟨rfl,rfl⟩;go_wp2
 (try simp only[Exit.inBlock,Exit.then])
 refine bodyPost_ret (results_none rfl _ _ _) rfl ?_;exact⟨rfl,rfl⟩
theorem otsort_none (p:Option Addr)(c:Nat)(fv:Value)(w:World):
  Calls Tryz.prog 168 #[.slice p 0 c,fv] w fun e w'=>e= .returned (.tuple #[])/\w'=w:=by
 have HL:Hid (∀W,Calls Tryz.prog 199 #[.int .u64 0] W fun e w'=>e= .returned (.int .i64 (Go.Lib.bitLen 0:Nat))/\w'=W):=zq fun W=>Any.bits_Len (SlLaysF0.n15.bits (P:=Tryz.prog) (ρ:=qe2) {sortSt13 with}) 0 W (by omega) (by omega);have HP:=zq (fun lim W=>otpdq_none p c lim fv W);go_enter Tryz.func168,Tryz.ntmps168;go_wp2_with fail;refine(HL.out _).mono ?_;rintro e w' ⟨rfl,rfl⟩;go_wp2_with fail;refine(HP.out _ _).mono ?_;rintro e w' ⟨rfl,rfl⟩;go_wp2;go_end0
 exact⟨rfl,rfl⟩
end
section
open Go.RowKit
open Go.Great
open Go.Sort (flatK HoldsK get_flatK)
open Go.Maps (has)
theorem flatK_eq (l:List St3)(j:Nat)(hj:j<l.length*2):(l.flatMap stC)[j]?=some (flatK stC 2 l.toArray)[j]!:=by
 have h1:j/2<l.length:=by omega
 have h2:=flat_at (f:=stC) (k:=2) (fun _=>rfl) (List.getElem?_eq_getElem h1) (i:=j %2) (by omega)
 rw[show j/2*2+j %2=j by omega]at h2;rw[h2,get_flatK _ _ _ _ (by simpa using hj)];have h3:l.toArray[j/2]! =l[j/2]:=by rw[getElem!_pos l.toArray (j/2) (by simpa using h1)];simp
 rw[h3]
 rcases Nat.mod_two_eq_zero_or_one j with h|h<;>rw[h]<;>rfl
theorem holds_of_own {w:World}{base g c:Nat}{l:List St3}(h:w.ownsRow base 30 2 (.slice (some ⟨g,0,none⟩) l.length c) l.length (l.flatMap stC)):HoldsK stC 2 w g 0 l.toArray:=by
 intro j hj;have hj':j<l.length*2:=by simpa using hj
 refine⟨?_,?_⟩
 ·have:=(Sl.of_own h).2.2 _ rfl j _ (flatK_eq l j hj')
  rw[show((⟨g,0,none⟩:Addr).add j)=⟨g,0+j,none⟩ by simp[Addr.add];exact fun h=>h.symm]at this;exact this
 ·rcases h.2 with⟨e,_⟩|⟨g',cap,cur,e,_,hb,_⟩
  ·cases e
  ·cases e
   exact Has.thaw (show Has w g 30 cur from hb) _
theorem slo_of_holds {w:World}{g c:Nat}{l:List St3}(h:HoldsK stC 2 w g 0 l.toArray):SlO stC 2 w (some ⟨g,0,none⟩) l.length c l:=by
 refine⟨rfl,qbJ (f:=stC) (k:=2) (fun _=>rfl) l,(fun e=>by cases e),fun ad ha j u hu=>?_⟩
 cases ha
 have hj:j<l.length*2:=by
  have:=(List.getElem?_eq_some_iff.1 hu).1
  rwa [qbJ (f:=stC) (k:=2) (fun _=>rfl)]at this
 rw[flatK_eq l j hj]at hu
 cases hu
 have:=(h j (by simpa using hj)).1;rw[show((⟨g,0,none⟩:Addr).add j)=⟨g,0+j,none⟩ by simp[Addr.add];exact fun h=>h.symm];exact this
theorem otcollect_any (gf:Nat)(lb:Array Value)(S:List St3->Prop)(N:Nat)(hN:N<=1048576)(w:World)(eg: ∀args w,(callFunc gf args).run Tryz.prog w= .ok (.enter gf args) w)
  (hseq:SeqStopsK Fence.wide 3 Tryz.prog gf lb encT KeepsWalks S (fun _=>True) N w):
  Calls Tryz.prog 167 #[.func (.func gf) #[] lb] w fun e w'=> ∃(v:Value) (ss:List St3),e= .returned v/\S ss/\Hid (w'.ownsRow w.heap.size 30 2 v ss.length (ss.flatMap stC))/\Below w.heap.size w w':=by
 have H:=zq (otappend_any gf lb S N hN w eg hseq);clear hseq eg;go_enter Tryz.func167,Tryz.ntmps167;go_wp2_with fail;refine H.out.mono ?_;rintro e w1 ⟨v,ss,rfl,hS,ho,hb⟩;have HS:=zq hS;have HB:=zq hb;clear hS hb H;go_wp2;go_ret
 exact⟨v,ss,rfl,HS.out,ho,HB.out⟩
theorem otsorted_any (gf:Nat)(lb:Array Value)(S:List St3->Prop)(N:Nat)(hN:N<=1048576)(hS: ∀ss,S ss->ss.length<=1048576)(w:World)(eg: ∀args w,(callFunc gf args).run Tryz.prog w= .ok (.enter gf args) w)
  (hseq:SeqStopsK Fence.wide 3 Tryz.prog gf lb encT KeepsWalks S (fun _=>True) N w):
  Calls Tryz.prog 94 #[.func (.func gf) #[] lb,.func (.func 97) #[] #[]] w fun e w'=> ∃(A:Option Addr) (c:Nat) (l:List St3),e= .returned (.slice A l.length c)/\Hid (SlO stC 2 w' A l.length c l)/\Hid (∃ss,S ss/\l.Perm ss)/\Hid (l.Pairwise (fun x y=>befS y x=false))/\Below w.heap.size w w':=by
 have H:=zq (otcollect_any gf lb S N hN w eg hseq);have HS:=zq hS;clear hseq eg hS;go_enter Tryz.func94,Tryz.ntmps94;go_wp2_with fail;refine H.out.mono ?_;rintro e w1 ⟨v,ss,rfl,hS,ho,hb⟩;have HSS:=zq hS;have HB:=zq hb;clear hS hb H;obtain⟨A,c,rfl⟩:=qdi ho.out
 cases A with
 |none=>
  obtain rfl:ss=[]:=by
   rcases ho.out.2 with⟨_,h⟩|⟨g,cap,cur,e,_⟩
   ·exact List.eq_nil_of_length_eq_zero h
   ·cases e
  have HN:=zq (fun W=>otsort_none none c (.func (.func 97) #[] #[]) W);rw[List.length_nil]at ho⊢;go_wp2_with fail;refine(HN.out _).mono ?_;rintro e w2 ⟨rfl,rfl⟩;have HO2:=ho;clear HN ho;go_wp2;go_ret
  refine⟨none,c,[],rfl,zq ⟨rfl,Sl.of_own HO2.out⟩,zq ⟨[],HSS.out,List.Perm.refl _⟩,zq List.Pairwise.nil,HB.out⟩
 |some ad=>
  obtain⟨g,rfl,hg⟩: ∃g,ad=⟨g,0,none⟩/\w.heap.size<=g:=by
   rcases ho.out.2 with⟨e,_⟩|⟨g,cap,cur,e,hg,_⟩
   ·cases e
   ·injection e with e1
    injection e1 with e2
    exact⟨g,e2,hg⟩
  have hgl:g<w1.heap.size:=by
   rcases ho.out.2 with⟨e,_⟩|⟨g',cap,cur,e,_,hb,_⟩
   ·cases e
   ·cases e
    exact(Array.getElem?_eq_some_iff.1 hb).1
  have HN:=zq (otsort_any ss g 0 c w1 (holds_of_own ho.out) hgl (HS.out ss HSS.out));have HG:=zq hg;clear ho hgl hg;go_wp2_with fail;refine HN.out.mono ?_;rintro e w2 ⟨rfl,l,hp,hso,hh,hgw⟩;have HP:=zq hp;have HSO:=zq hso;have HH:=zq hh;have HB2:=zq (qan HB.out hgw HB.out.size HG.out);have HLE:Hid (ss.length=l.length):=zq hp.length_eq.symm;clear HN hp hso hh hgw;go_wp2;go_ret
  refine⟨some ⟨g,0,none⟩,c,l,by rw[<-HLE.out];rfl,zq (slo_of_holds HH.out),zq ⟨ss,HSS.out,HP.out⟩,HSO,HB2.out⟩
theorem qgA {x y:St3}(h:befS x y=true):x≠y/\befS y x=false:=by
 rw[qdW];rw[qgB]at h;obtain⟨a,b⟩:=x;obtain⟨c,d⟩:=y;dsimp only at*;refine⟨fun e=>?_,?_⟩
 ·cases e
  cases b<;>simp at h
 ·cases b<;>cases d<;>simp at* <;>omega
theorem befS_anti {x y:St3}(h1:befS x y=false)(h2:befS y x=false):x=y:=by
 rw[qdW]at*;obtain⟨a,b⟩:=x;obtain⟨c,d⟩:=y;dsimp only at*
 cases b<;>cases d<;>simp at* <;>omega
theorem after_up (t:Tp3)(s:St3):(qaC t s).Pairwise (fun x y=>befS x y=true):=by
 unfold qaC;split
 ·rw[List.pairwise_flatMap]
  refine⟨fun i _=>?_,?_⟩
  ·unfold qcy
   split<;>split<;>simp[befS]
  ·refine(List.pairwise_lt_range).imp ?_
   intro a b hab x hx y hy;have h1:=(qen.1 hx).1;have h2:=(qen.1 hy).1;rw[qgB,h1,h2];exact .inl (by omega)
 ·exact List.Pairwise.nil
theorem after_is {t:Tp3}{s:St3}{l ss:List St3}{D:DataW Unit}(hl:t.edges.length<=100)(hD:SetM D (folB t s))(hS:ss.Nodup/\ ∀x,x∈ss↔(wfS x/\has D (stK x)=true))(hp:l.Perm ss)(hs:l.Pairwise fun x y=>befS y x=false):l=qaC t s:=by
 have hu:=after_up t s;have hn:(qaC t s).Nodup:=hu.imp fun h=>(qgA h).1;refine List.Perm.eq_of_pairwise (le:=fun x y=>befS y x=false) (fun x y _ _ h1 h2=>befS_anti h2 h1) hs (hu.imp fun h=>(qgA h).2) ?_;refine hp.trans ((List.perm_ext_iff_of_nodup hS.1 hn).2 fun x=>?_);rw[hS.2 x,<-qfg]
 constructor
 ·rintro⟨h1,h2⟩
  rwa [hD.mem x h1]at h2
 ·intro h
  have hw:wfS x:=wfS_of (qbw.1 (qfg.1 h)).2.1 hl;exact⟨hw,by rw[hD.mem x hw];exact h⟩
theorem qfU (t:Tp3)(s:St3)(h:t.edges.length<=100):(qaC t s).length<=1048576:=by
 have h1: ∀n:Nat,((List.range n).flatMap (qcy t s)).length<=2*n:=by
  intro n
  induction n with
  |zero=>simp
  |succ n ih=>
   have h2:(qcy t s n).length<=2:=by
    unfold qcy;rw[List.length_append];have h3: ∀(p:Prop) [Decidable p] (x:St3),(if p then[x]else[]).length<=1:=by
     intro p _ x;split<;>simp
    have:=h3 (mayT t s ⟨n,false⟩=true) ⟨n,false⟩;have:=h3 (mayT t s ⟨n,true⟩=true) ⟨n,true⟩;omega
   rw[List.range_succ,List.flatMap_append,List.length_append];simp only[List.flatMap_cons,List.flatMap_nil,List.append_nil];omega
 unfold qaC;split
 ·have:=h1 t.edges.length
  omega
 ·simp
theorem after_len (t:Tp3)(s:St3){ss:List St3}{D:DataW Unit}(hl:t.edges.length<=100)(hD:SetM D (folB t s))(hS:ss.Nodup/\ ∀x,x∈ss↔(wfS x/\has D (stK x)=true)):ss.length<=1048576:=by
 have hn:(qaC t s).Nodup:=(after_up t s).imp fun h=>(qgA h).1;have hp:ss.Perm (qaC t s):=(List.perm_ext_iff_of_nodup hS.1 hn).2 fun x=>by
  rw[hS.2 x,<-qfg]
  constructor
  ·rintro⟨h1,h2⟩
   rwa [hD.mem x h1]at h2
  ·intro h
   have hw:wfS x:=wfS_of (qbw.1 (qfg.1 h)).2.1 hl;exact⟨hw,by rw[hD.mem x hw];exact h⟩
 have:=qfU t s hl;have:=hp.length_eq;omega
theorem qdh (t:Tp3)(a:TpA)(s:St3)(w:World)(ht:TopR w t a)(hl:qaJ t=true):Calls Tryz.prog 37 #[.agg (tpC t a),.agg (stA13 s)] w fun e w'=> ∃A c,e= .returned (.slice A (qaC t s).length c)/\SlO stC 2 w' A (qaC t s).length c (qaC t s)/\Below w.heap.size w w':=by
 have hn:=qav hl;obtain⟨wa,hwa,hbwa,HWA,HBWA,h0,h1⟩:=bx2Z w 27 (tpC t a) 30 (stA13 s);have H0:=zq h0;have H1:=zq h1;have HL:=zq hn.1;have HJ:=zq hn.2.1;have HF:=zq (otfol_any t a s wa (ht.under hbwa) hn.1 (by omega));clear hwa hbwa h0 h1 ht hn;go_enter Tryz.func37,Tryz.ntmps37;go_upto_region 1 with fail;rw[HWA.out];clear HWA;go_wp2_with (first|(with_reducible refine ldZ 5 H0.out ?_)|(with_reducible refine ldZ 6 H1.out ?_));refine HF.out.mono ?_;rintro e w1 ⟨bm,n,D,rfl,hn,HO,HD,_,hb1⟩;have HB1:=tB HBWA hb1;have HNN:=zq hn;clear hb1 hn HF H0 H1 HBWA;go_wp2_with fail;refine(otkeys_any _ _).mono ?_;rintro e w2 ⟨rfl,rfl⟩;obtain⟨w2,hw2⟩:=geZ (w1.alloc (.cells #[.map (some bm)] 143));rw[hw2];have hb2:Below w1.heap.size w1 w2:=by rw[<-hw2];exact bA
 have hm2:Has w2 w1.heap.size 143 #[.map (some bm)]:=by rw[<-hw2];exact Has.made _ _ _
 have HB2:=tB HB1 hb2;have HSEQ:=zq (otkeys_stops 3 (by omega) w1.heap.size bm n D w2 hm2 (HO.out.kept (qaL hb2 (Nat.le_refl _) none) (by simp)));have HSO:=zq (otsorted_any 169 #[.pointer (some ⟨w1.heap.size,0,none⟩)] _ (Go.Maps.size D) (by have h1:=HO.out.size_le;have h2:=HNN.out;have h3:=HJ.out;omega) (fun ss h=>after_len t s HL.out HD.out h) w2 (enters_of Tryz.func169 (by kernel_rfl) rfl) HSEQ.out);clear hw2 hb2 hm2 HSEQ;go_wp2_with fail;refine HSO.out.mono ?_;rintro e w3 ⟨A,c,l,rfl,HSL,HPE,HPW,hb3⟩;have HB3:=tB HB2 hb3;obtain rfl:l=qaC t s:=by
  obtain⟨ss,hS,hp⟩:=HPE.out;exact after_is HL.out HD.out hS hp HPW.out
 clear hb3 HSO;go_wp2;go_ret
 exact⟨A,c,rfl,HSL.out,HB3.out⟩
end
section
open Go.RowKit
open Go.Great
theorem opl_walk0 (t:Tp3)(a:TpA)(p:Ps3)(n:Int)(w:World)(ht:TopR w t a)(hlt:qaJ t=true)(hcj:t.joints.length<=a.cj):
  Calls Tryz.prog 73 #[.agg (tpC t a),.agg (psA p),.int .i64 n] w fun e w'=>e= .returned (.tuple #[.agg (psA (walkE t p n).1),.int .i64 (walkE t p n).2])/\Below w.heap.size w w':=by
 obtain⟨rP,hrP⟩: ∃r,(walkE t p n).1=r:=⟨_,rfl⟩
 obtain⟨rE,hrE⟩: ∃r,(walkE t p n).2=r:=⟨_,rfl⟩
 have HWE:=zq (show walkE t p n=(rP,rE)from Prod.ext hrP hrE);rw[hrP,hrE];clear hrP hrE;have HLT:=zq hlt;have HNN:=zq (qav hlt);have HCJ:=zq hcj;clear hlt hcj;obtain⟨wa,hwa,hbwa,HWA,HBWA,h0,h1,h2⟩:=bx3Z w 27 (tpC t a) 51 (psA p) 51 #[.int .i64 0,.int .i64 0,.bool false];have HT:=zq (fun W (hW:Below w.heap.size w W)=>ht.under hW);have HG0:=zq h0;have HG1:=zq h1;have HG2:=zq h2;obtain⟨b,hb⟩:=geZ (qa4 t p);have HRB:=zq hb;obtain⟨bn,hbn⟩: ∃b,qaq n 0 1099511627776=b:=⟨_,rfl⟩
 have HBN:=zq hbn;clear hwa hbwa h0 h1 h2 hb hbn ht;go_enter Tryz.func73,Tryz.ntmps73;go_upto_region 1 with fail;rw[HWA.out];clear HWA;go_step3
 go_wp2_with (first|(with_reducible refine ldZ 13 HG0.out ?_)|(with_reducible refine ldZ 14 HG1.out ?_));refine(opl_right t a p wa (HT.out wa HBWA.out) HLT.out HCJ.out).mono ?_;rw[HRB.out];rintro e w1 ⟨rfl,hb⟩;have HB:=HBWA;clear HBWA;have HB:=tB HB hb;have HG0:=uH HG0 hb;have HG1:=uH HG1 hb;have HG2:=uH HG2 hb;clear hb
 cases b with
 |false=>
  have HR:=zq (qab HG2.out #[.int .i64 0,.int .i64 0,.bool false]);have HBF:=zq (qac (g:=w.heap.size+1+1) HB.out (by omega) #[.int .i64 0,.int .i64 0,.bool false]);go_wp2_with (with_reducible refine stZ #[.int .i64 0,.int .i64 0,.bool false] HG2.out ?_)
  try rw[Exit.noGoto_ret]
  refine rtZ HR.out ?_;obtain⟨rfl,rfl⟩:=Prod.mk.inj (show(rP,rE)=(zeroP,1)from HWE.out.symm.trans (walkE_bad (fun h_=>by have h2_:=h_.1;rw[HRB.out]at h2_;cases h2_)));exact⟨rfl,HBF.out⟩
 |true=>
  go_wp2_with fail;refine(qeZ n 0 1099511627776 _).mono ?_;rw[HBN.out];rintro e w2 ⟨rfl,rfl⟩
  cases bn with
  |false=>
   have HR:=zq (qab HG2.out #[.int .i64 0,.int .i64 0,.bool false]);have HBF:=zq (qac (g:=w.heap.size+1+1) HB.out (by omega) #[.int .i64 0,.int .i64 0,.bool false]);go_wp2_with (with_reducible refine stZ #[.int .i64 0,.int .i64 0,.bool false] HG2.out ?_)
   try rw[Exit.noGoto_ret]
   refine rtZ HR.out ?_;obtain⟨rfl,rfl⟩:=Prod.mk.inj (show(rP,rE)=(zeroP,1)from HWE.out.symm.trans (walkE_bad (fun h_=>by have h2_:=HBN.out;unfold qaq at h2_;have h3_:=h_.2;simp only[Bool.and_eq_false_iff,decide_eq_false_iff_not]at h2_;omega)));exact⟨rfl,HBF.out⟩
  |true=>
   have HN:=zq (show 0<=n/\n<=1099511627776 from by have h2_:=HBN.out;unfold qaq at h2_;simp only[Bool.and_eq_true,decide_eq_true_eq]at h2_;exact h2_);have HWF:=zq ((walkE_ok ⟨HRB.out,HN.out⟩).symm.trans HWE.out);have HRR:=zq (qaQ.1 HRB.out);have HED:=zq (qaD HRR.out.1).1;have HON:=zq HRR.out.2;clear HWE HRB HRR HBN;obtain⟨d,hd⟩: ∃x,distP t p=x:=⟨_,rfl⟩
   have HD:=zq hd;have HDO:=zq (show 0<=d/\d<=1000000 from by rw[<-hd];exact dist_ok HED.out HON.out);clear hd;have hwr1:IntKind.i64.wrap (d+n)=d+n:=by have h1_:=HN.out;have h2_:=HDO.out;rw[IntKind.wrap_i64];omega
   obtain⟨wv,hwv⟩: ∃wv,wv=w2:=⟨_,rfl⟩
   subst hwv;go_upto_region 3 with fail;go_cut [8,9] (fun s8 s9 wx=> ∃gs:Nat,s8= .pointer (some ⟨gs,0,none⟩)/\s9= .int .i64 (d+n)/\Hid (Has wx gs 30 (stA13 (stepP p)))/\Hid (Has wx (w.heap.size) 27 (tpC t a))/\Hid (Has wx (w.heap.size+1+1) 51 #[.int .i64 0,.int .i64 0,.bool false])/\Hid (Below w.heap.size w wx)/\Hid (w.heap.size+1+1<gs))
   case first=>
    refine wp_region_held_drew (S:=(fun W_=>Has W_ (w.heap.size) 27 (tpC t a)/\Has W_ (w.heap.size+1) 51 (psA p)/\Has W_ (w.heap.size+1+1) 51 #[.int .i64 0,.int .i64 0,.bool false]/\Below w.heap.size w W_)) (by kernel_rfl) ?_ (fun hHeld=>?_)
    ·exact⟨HG0.out.draw,HG1.out.draw,HG2.out.draw,qah HB.out⟩
    refine tlZ 0 23 (w.heap.size+1) (psA p) (fun _ ⟨_,h_,_,_⟩=>h_) (h:=?_);simp only[lyZ];refine tlZ 2 25 w.heap.size (tpC t a) (fun _ ⟨h_,_,_,_⟩=>h_) (h:=?_);simp only[lyZ];refine tlZ 3 26 (w.heap.size+1) (psA p) (fun _ ⟨_,h_,_,_⟩=>h_) (h:=?_);simp only[lyZ];refine tkZ 5 28 (h:=?_);simp only[lyZ];refine rdZ [1,7] ?_;refine acZ (some 24) (fun K hK=>?_) ?_
    ·go_simp
     obtain⟨s0,s1,s2,s3⟩:=hHeld;refine(qeD p _).mono ?_;rintro e_ v1 ⟨rfl,hbs⟩;go_wp2_with fail;refine hK.out _ _ ?_ (fun hHeld=>?_)
     ·exact⟨s0.u hbs,s1.u hbs,s2.u hbs,bu s3 hbs⟩
     clear hK K s0 s1 s2 s3
     try simp only[lyZ]
     refine rdZ [4,7] ?_;refine acZ (some 27) (fun K hK=>?_) ?_
     ·go_simp
      obtain⟨s0,s1,s2,s3⟩:=hHeld;refine(qdA t a p _ (HT.out _ s3) HON.out HED.out).mono ?_;rw[HD.out];rintro e_ v2 ⟨rfl,hbs⟩;go_wp2_with fail;refine hK.out _ _ ?_ (fun hHeld=>?_)
      ·exact⟨s0.u hbs,s1.u hbs,s2.u hbs,bu s3 hbs⟩
      clear hK K s0 s1 s2 s3
      try simp only[lyZ]
      refine tkZ 6 29 (h:=?_);simp only[lyZ];refine rdZ [7] ?_;refine acZ (some 8) (fun K hK=>?_) ?_
      ·go_simp
       obtain⟨s0,s1,s2,s3⟩:=hHeld;obtain⟨gs,hgs⟩:=geZ (v2.heap.size);have hgl:w.heap.size<gs:=by rw[<-hgs];exact s0.lt
       have hgl1:w.heap.size+1<gs:=by rw[<-hgs];exact s1.lt
       have hgl2:w.heap.size+1+1<gs:=by rw[<-hgs];exact s2.lt
       have hgsle:v2.heap.size<=gs:=Nat.le_of_eq hgs;rw[hgs];refine hK.out _ _ ?_ (fun hHeld=>?_)
       ·exact⟨s0.beside _,s1.beside _,s2.beside _,qao s3 _⟩
       refine qaw (T:=(fun W_=>Has W_ (w.heap.size) 27 (tpC t a)/\Has W_ (w.heap.size+1) 51 (psA p)/\Has W_ (w.heap.size+1+1) 51 #[.int .i64 0,.int .i64 0,.bool false]/\Below w.heap.size w W_/\(∃o_:Array Value,Has W_ (gs) 30 o_/\o_.size=2))) (fun _ ⟨s0,s1,s2,s3,s4⟩=>⟨s0,s1,s2,s3⟩) ?_;have hHeld2:(fun W_=>Has W_ (w.heap.size) 27 (tpC t a)/\Has W_ (w.heap.size+1) 51 (psA p)/\Has W_ (w.heap.size+1+1) 51 #[.int .i64 0,.int .i64 0,.bool false]/\Below w.heap.size w W_/\(∃o_:Array Value,Has W_ (gs) 30 o_/\o_.size=2)) _:=⟨s0.beside (.cells #[.int .i64 0,.bool false] 30),s1.beside (.cells #[.int .i64 0,.bool false] 30),s2.beside (.cells #[.int .i64 0,.bool false] 30),qao s3 (.cells #[.int .i64 0,.bool false] 30),⟨#[.int .i64 0,.bool false],(by rw[<-hgs];exact Has.made _ _ _),by kernel_rfl⟩⟩
       clear hHeld;have hHeld:=hHeld2;clear hHeld2 hK K hgs s0 s1 s2 s3
       try simp only[lyZ]
       refine rdZ [8] ?_;refine acZ none (fun K hK=>?_) ?_
       ·rw[if_pos (by rfl)]
        obtain⟨s0,s1,s2,s3,s4⟩:=hHeld;obtain⟨o_,h_,e_⟩:=s4;refine wp_store_row 30 _ _ rfl (gs) (stA13 (stepP p)) (by rfl) (by rfl) 30 o_ h_.raw11 (by kernel_rfl) e_ (by kernel_rfl) ?_;refine hK.out _ _ ?_ (fun hHeld=>?_)
        ·exact⟨qae s0 (by omega) _,qae s1 (by omega) _,qae s2 (by omega) _,qac s3 (by omega) _,⟨_,qab h_ (stA13 (stepP p)),by kernel_rfl⟩⟩
        refine qaw (T:=(fun W_=>Has W_ (w.heap.size) 27 (tpC t a)/\Has W_ (w.heap.size+1) 51 (psA p)/\Has W_ (w.heap.size+1+1) 51 #[.int .i64 0,.int .i64 0,.bool false]/\Below w.heap.size w W_/\Has W_ (gs) 30 (stA13 (stepP p)))) (fun _ ⟨s0,s1,s2,s3,s4⟩=>⟨s0,s1,s2,s3,⟨_,s4,by kernel_rfl⟩⟩) ?_;have hHeld2:(fun W_=>Has W_ (w.heap.size) 27 (tpC t a)/\Has W_ (w.heap.size+1) 51 (psA p)/\Has W_ (w.heap.size+1+1) 51 #[.int .i64 0,.int .i64 0,.bool false]/\Below w.heap.size w W_/\Has W_ (gs) 30 (stA13 (stepP p))) _:=⟨qae s0 (by omega) _,qae s1 (by omega) _,qae s2 (by omega) _,qac s3 (by omega) _,qab h_ (stA13 (stepP p))⟩
        clear hHeld;have hHeld:=hHeld2;clear hHeld2 hK K h_ e_ s0 s1 s2 s3
        try simp only[Act.put]
        refine tkZ 9 9 (h:=?_);simp only[lyZ];refine dnZ ?_;go_wp2_with fail;go_meet
        exact⟨gs,rfl,rfl,zq hHeld.2.2.2.2,zq hHeld.1,zq hHeld.2.2.1,zq hHeld.2.2.2.1,zq hgl2⟩
       exact AllReadyH.nil
      exact AllReadyH.nil
     refine acZ (some 8) (fun K hK=>?_) ?_
     ·go_simp
      obtain⟨s0,s1,s2,s3⟩:=hHeld;obtain⟨gs,hgs⟩:=geZ (v1.heap.size);have hgl:w.heap.size<gs:=by rw[<-hgs];exact s0.lt
      have hgl1:w.heap.size+1<gs:=by rw[<-hgs];exact s1.lt
      have hgl2:w.heap.size+1+1<gs:=by rw[<-hgs];exact s2.lt
      have hgsle:v1.heap.size<=gs:=Nat.le_of_eq hgs;rw[hgs];refine hK.out _ _ ?_ (fun hHeld=>?_)
      ·exact⟨s0.beside _,s1.beside _,s2.beside _,qao s3 _⟩
      refine qaw (T:=(fun W_=>Has W_ (w.heap.size) 27 (tpC t a)/\Has W_ (w.heap.size+1) 51 (psA p)/\Has W_ (w.heap.size+1+1) 51 #[.int .i64 0,.int .i64 0,.bool false]/\Below w.heap.size w W_/\(∃o_:Array Value,Has W_ (gs) 30 o_/\o_.size=2))) (fun _ ⟨s0,s1,s2,s3,s4⟩=>⟨s0,s1,s2,s3⟩) ?_;have hHeld2:(fun W_=>Has W_ (w.heap.size) 27 (tpC t a)/\Has W_ (w.heap.size+1) 51 (psA p)/\Has W_ (w.heap.size+1+1) 51 #[.int .i64 0,.int .i64 0,.bool false]/\Below w.heap.size w W_/\(∃o_:Array Value,Has W_ (gs) 30 o_/\o_.size=2)) _:=⟨s0.beside (.cells #[.int .i64 0,.bool false] 30),s1.beside (.cells #[.int .i64 0,.bool false] 30),s2.beside (.cells #[.int .i64 0,.bool false] 30),qao s3 (.cells #[.int .i64 0,.bool false] 30),⟨#[.int .i64 0,.bool false],(by rw[<-hgs];exact Has.made _ _ _),by kernel_rfl⟩⟩
      clear hHeld;have hHeld:=hHeld2;clear hHeld2 hK K hgs s0 s1 s2 s3
      try simp only[lyZ]
      refine rdZ [4] ?_;refine acZ (some 27) (fun K hK=>?_) ?_
      ·go_simp
       obtain⟨s0,s1,s2,s3,s4⟩:=hHeld;refine(qdA t a p _ (HT.out _ s3) HON.out HED.out).mono ?_;rw[HD.out];rintro e_ v2 ⟨rfl,hbs⟩;go_wp2_with fail;refine hK.out _ _ ?_ (fun hHeld=>?_)
       ·exact⟨s0.u hbs,s1.u hbs,s2.u hbs,bu s3 hbs,(let ⟨o_,h_,e_⟩:=s4;⟨o_,h_.u hbs,e_⟩)⟩
       clear hK K s0 s1 s2 s3 s4
       try simp only[lyZ]
       refine tkZ 6 29 (h:=?_);simp only[lyZ];refine rdZ [8] ?_;refine acZ none (fun K hK=>?_) ?_
       ·rw[if_pos (by rfl)]
        obtain⟨s0,s1,s2,s3,s4⟩:=hHeld;obtain⟨o_,h_,e_⟩:=s4;refine wp_store_row 30 _ _ rfl (gs) (stA13 (stepP p)) (by rfl) (by rfl) 30 o_ h_.raw11 (by kernel_rfl) e_ (by kernel_rfl) ?_;refine hK.out _ _ ?_ (fun hHeld=>?_)
        ·exact⟨qae s0 (by omega) _,qae s1 (by omega) _,qae s2 (by omega) _,qac s3 (by omega) _,⟨_,qab h_ (stA13 (stepP p)),by kernel_rfl⟩⟩
        refine qaw (T:=(fun W_=>Has W_ (w.heap.size) 27 (tpC t a)/\Has W_ (w.heap.size+1) 51 (psA p)/\Has W_ (w.heap.size+1+1) 51 #[.int .i64 0,.int .i64 0,.bool false]/\Below w.heap.size w W_/\Has W_ (gs) 30 (stA13 (stepP p)))) (fun _ ⟨s0,s1,s2,s3,s4⟩=>⟨s0,s1,s2,s3,⟨_,s4,by kernel_rfl⟩⟩) ?_;have hHeld2:(fun W_=>Has W_ (w.heap.size) 27 (tpC t a)/\Has W_ (w.heap.size+1) 51 (psA p)/\Has W_ (w.heap.size+1+1) 51 #[.int .i64 0,.int .i64 0,.bool false]/\Below w.heap.size w W_/\Has W_ (gs) 30 (stA13 (stepP p))) _:=⟨qae s0 (by omega) _,qae s1 (by omega) _,qae s2 (by omega) _,qac s3 (by omega) _,qab h_ (stA13 (stepP p))⟩
        clear hHeld;have hHeld:=hHeld2;clear hHeld2 hK K h_ e_ s0 s1 s2 s3
        try simp only[Act.put]
        refine tkZ 9 9 (h:=?_);simp only[lyZ];refine dnZ ?_;go_wp2_with fail;go_meet
        exact⟨gs,rfl,rfl,zq hHeld.2.2.2.2,zq hHeld.1,zq hHeld.2.2.1,zq hHeld.2.2.2.1,zq hgl2⟩
       exact AllReadyH.nil
      exact AllReadyH.nil
     exact AllReadyH.nil
    refine acZ (some 8) (fun K hK=>?_) ?_
    ·go_simp
     obtain⟨s0,s1,s2,s3⟩:=hHeld;obtain⟨gs,hgs⟩:=geZ (wv.heap.size);have hgl:w.heap.size<gs:=by rw[<-hgs];exact s0.lt
     have hgl1:w.heap.size+1<gs:=by rw[<-hgs];exact s1.lt
     have hgl2:w.heap.size+1+1<gs:=by rw[<-hgs];exact s2.lt
     have hgsle:wv.heap.size<=gs:=Nat.le_of_eq hgs;rw[hgs];refine hK.out _ _ ?_ (fun hHeld=>?_)
     ·exact⟨s0.beside _,s1.beside _,s2.beside _,qao s3 _⟩
     refine qaw (T:=(fun W_=>Has W_ (w.heap.size) 27 (tpC t a)/\Has W_ (w.heap.size+1) 51 (psA p)/\Has W_ (w.heap.size+1+1) 51 #[.int .i64 0,.int .i64 0,.bool false]/\Below w.heap.size w W_/\(∃o_:Array Value,Has W_ (gs) 30 o_/\o_.size=2))) (fun _ ⟨s0,s1,s2,s3,s4⟩=>⟨s0,s1,s2,s3⟩) ?_;have hHeld2:(fun W_=>Has W_ (w.heap.size) 27 (tpC t a)/\Has W_ (w.heap.size+1) 51 (psA p)/\Has W_ (w.heap.size+1+1) 51 #[.int .i64 0,.int .i64 0,.bool false]/\Below w.heap.size w W_/\(∃o_:Array Value,Has W_ (gs) 30 o_/\o_.size=2)) _:=⟨s0.beside (.cells #[.int .i64 0,.bool false] 30),s1.beside (.cells #[.int .i64 0,.bool false] 30),s2.beside (.cells #[.int .i64 0,.bool false] 30),qao s3 (.cells #[.int .i64 0,.bool false] 30),⟨#[.int .i64 0,.bool false],(by rw[<-hgs];exact Has.made _ _ _),by kernel_rfl⟩⟩
     clear hHeld;have hHeld:=hHeld2;clear hHeld2 hK K hgs s0 s1 s2 s3
     try simp only[lyZ]
     refine rdZ [1] ?_;refine acZ (some 24) (fun K hK=>?_) ?_
     ·go_simp
      obtain⟨s0,s1,s2,s3,s4⟩:=hHeld;refine(qeD p _).mono ?_;rintro e_ v1 ⟨rfl,hbs⟩;go_wp2_with fail;refine hK.out _ _ ?_ (fun hHeld=>?_)
      ·exact⟨s0.u hbs,s1.u hbs,s2.u hbs,bu s3 hbs,(let ⟨o_,h_,e_⟩:=s4;⟨o_,h_.u hbs,e_⟩)⟩
      clear hK K s0 s1 s2 s3 s4
      try simp only[lyZ]
      refine rdZ [4] ?_;refine acZ (some 27) (fun K hK=>?_) ?_
      ·go_simp
       obtain⟨s0,s1,s2,s3,s4⟩:=hHeld;refine(qdA t a p _ (HT.out _ s3) HON.out HED.out).mono ?_;rw[HD.out];rintro e_ v2 ⟨rfl,hbs⟩;go_wp2_with fail;refine hK.out _ _ ?_ (fun hHeld=>?_)
       ·exact⟨s0.u hbs,s1.u hbs,s2.u hbs,bu s3 hbs,(let ⟨o_,h_,e_⟩:=s4;⟨o_,h_.u hbs,e_⟩)⟩
       clear hK K s0 s1 s2 s3 s4
       try simp only[lyZ]
       refine tkZ 6 29 (h:=?_);simp only[lyZ];refine rdZ [8] ?_;refine acZ none (fun K hK=>?_) ?_
       ·rw[if_pos (by rfl)]
        obtain⟨s0,s1,s2,s3,s4⟩:=hHeld;obtain⟨o_,h_,e_⟩:=s4;refine wp_store_row 30 _ _ rfl (gs) (stA13 (stepP p)) (by rfl) (by rfl) 30 o_ h_.raw11 (by kernel_rfl) e_ (by kernel_rfl) ?_;refine hK.out _ _ ?_ (fun hHeld=>?_)
        ·exact⟨qae s0 (by omega) _,qae s1 (by omega) _,qae s2 (by omega) _,qac s3 (by omega) _,⟨_,qab h_ (stA13 (stepP p)),by kernel_rfl⟩⟩
        refine qaw (T:=(fun W_=>Has W_ (w.heap.size) 27 (tpC t a)/\Has W_ (w.heap.size+1) 51 (psA p)/\Has W_ (w.heap.size+1+1) 51 #[.int .i64 0,.int .i64 0,.bool false]/\Below w.heap.size w W_/\Has W_ (gs) 30 (stA13 (stepP p)))) (fun _ ⟨s0,s1,s2,s3,s4⟩=>⟨s0,s1,s2,s3,⟨_,s4,by kernel_rfl⟩⟩) ?_;have hHeld2:(fun W_=>Has W_ (w.heap.size) 27 (tpC t a)/\Has W_ (w.heap.size+1) 51 (psA p)/\Has W_ (w.heap.size+1+1) 51 #[.int .i64 0,.int .i64 0,.bool false]/\Below w.heap.size w W_/\Has W_ (gs) 30 (stA13 (stepP p))) _:=⟨qae s0 (by omega) _,qae s1 (by omega) _,qae s2 (by omega) _,qac s3 (by omega) _,qab h_ (stA13 (stepP p))⟩
        clear hHeld;have hHeld:=hHeld2;clear hHeld2 hK K h_ e_ s0 s1 s2 s3
        try simp only[Act.put]
        refine tkZ 9 9 (h:=?_);simp only[lyZ];refine dnZ ?_;go_wp2_with fail;go_meet
        exact⟨gs,rfl,rfl,zq hHeld.2.2.2.2,zq hHeld.1,zq hHeld.2.2.1,zq hHeld.2.2.2.1,zq hgl2⟩
       exact AllReadyH.nil
      exact AllReadyH.nil
     exact AllReadyH.nil
    exact AllReadyH.nil
   clear HB HG0 HG1 HG2 hwr1;obtain⟨gs,rfl,rfl,HGS,HG0,HG2,HB,HGL⟩:=hcut;go_wp2;go_step3
   go_wp2;go_loopg [9,10] 41 (fun kk v9 v10 wl=> ∃(l:Nat) (m rr:Int) (q:Ps3),l<=40/\41-l<=kk/\v10= .int .i64 l/\v9= .int .i64 rr/\Hid (rr=distP t q+m)/\Hid (0<=m/\m<=1099511627776)/\Hid (onB t q=true)/\Hid (walkF t (40-l) q m=(rP,rE))/\Hid (Below w.heap.size w wl)/\Hid (Has wl (w.heap.size) 27 (tpC t a))/\Hid (Has wl gs 30 (stA13 (stepP q)))/\Hid (Has wl (w.heap.size+1+1) 51 #[.int .i64 0,.int .i64 0,.bool false]))
   case atStart=>exact⟨0,n,d+n,p,by omega,by omega,rfl,rfl,zq (by rw[HD.out]),HN,HON,HWF,HB,HG0,HGS,HG2⟩
   clear HWF HN HON HB HG0 HGS HG2 HD HDO;obtain⟨l,m,rr,q,hl,hlk,rfl,rfl,HRRR,HM,HON,HWF,HB,HG0,HGS,HG2⟩:=hrel;obtain⟨ah,hah⟩: ∃x,qaA t q=x:=⟨_,rfl⟩
   have HAH:=zq hah;have HAB:=zq (show 0<=ah/\ah<=1000000 from by rw[<-hah];exact qdr HED.out HON.out);have hqe:=(qbu.1 HON.out).1;have HQE:=zq (show edgeB t (stepP q).edge=true from hqe);have hqe2:=hqe;unfold edgeB at hqe2;simp only[Bool.and_eq_true,decide_eq_true_eq]at hqe2;obtain⟨ke,hke⟩: ∃k:Nat,q.edge=k:=⟨q.edge.toNat,by omega⟩
   have hkl:ke<t.edges.length:=by omega
   obtain⟨be,oe,hae,-⟩:=(HT.out wr HB.out).e.edge hkl;obtain⟨lq,hlq⟩: ∃x,t.edges.getD ke 0=x:=⟨_,rfl⟩
   have HLQ:=zq (show qau t q.edge=lq from by rw[hke];exact hlq);have HLB:=zq (show 1<=lq/\lq<=1000000 from by rw[<-HLQ.out];exact qa2 HED.out (s:=stepP q) hqe);have HRA:=zq (show rr=lq-ah+m from by rw[HRRR.out,qf0,HLQ.out,hah]);obtain⟨ne,hne⟩: ∃x,t.edges.length=x:=⟨_,rfl⟩
   have HCE:Hid (∀W,Has W (w.heap.size) 27 (tpC t a)->W.cell? ⟨w.heap.size,0,none⟩=some (.slice (some ⟨be,oe,none⟩) ne a.ce)):=zq fun W hW=>by
    have c_:W.cell? ⟨w.heap.size,0,none⟩=some (.slice a.ae t.edges.length a.ce):=hW.cell 0;rw[hae,hne]at c_;exact c_
   have HCQ:Hid (∀W,Below w.heap.size w W->W.cell? ⟨be,oe+ke,none⟩=some (.int .i64 lq)):=zq fun W hW=>by
    obtain⟨b_,o_,e_,h_⟩:=(HT.out W hW).e.edge hkl;rw[hae]at e_;injection e_ with e_
    injection e_ with e1_ e2_ _
    subst e1_ e2_;rw[hlq]at h_;exact h_
   have HKE:=zq hke;rw[hne]at hkl;have y0:(0:Int)<=ke:=by omega
   have y1:(ke:Int)<ne:=by omega
   clear hah hqe hqe2 hke hkl hae hlq hne;obtain⟨wv2,hwv2⟩: ∃wv,wv=wr:=⟨_,rfl⟩
   subst hwv2;obtain⟨k1,hk1⟩: ∃k1,k1=gk:=⟨_,rfl⟩
   subst hk1;go_upto_region 6 with fail;refine wp_region_held_drew (S:=(fun W_=>Has W_ (w.heap.size) 27 (tpC t a)/\Has W_ (gs) 30 (stA13 (stepP q))/\Has W_ (w.heap.size+1+1) 51 #[.int .i64 0,.int .i64 0,.bool false]/\Below w.heap.size w W_)) (by kernel_rfl) ?_ (fun hHeld=>?_)
   ·exact⟨HG0.out.draw,HGS.out.draw,HG2.out.draw,qah HB.out⟩
   refine tkZ 0 32 (h:=?_);simp only[lyZ];refine tqZ 1 33 (fun w_ hSw=>(show w_.cell? ⟨w.heap.size,0,none⟩=some (.slice (some ⟨be,oe,none⟩) ne a.ce:Value)from HCE.out w_ hSw.1)) (h:=?_);simp only[lyZ];refine tkZ 2 34 (h:=?_);simp only[lyZ];refine tqZ 3 35 (fun w_ hSw=>(show w_.cell? ⟨gs,0,none⟩=some (.int .i64 (ke:Int):Value)from by have h_:=hSw.2.1.cell 0;rw[<-HKE.out];exact h_)) (h:=?_);simp only[lyZ];refine tkZ 4 36 (h:=?_);simp only[lyZ];refine tqZ 5 37 (fun w_ hSw=>HCQ.out w_ hSw.2.2.2) (h:=?_);simp only[lyZ];refine tlZ 6 38 w.heap.size (tpC t a) (fun _ ⟨h_,_,_,_⟩=>h_) (h:=?_);simp only[lyZ];refine tlZ 7 39 gs (stA13 (stepP q)) (fun _ ⟨_,h_,_,_⟩=>h_) (h:=?_);simp only[lyZ];refine rdZ [8] ?_;refine acZ (some 40) (fun K hK=>?_) ?_
   ·go_simp
    obtain⟨s0,s1,s2,s3⟩:=hHeld;refine(qdh t a (stepP q) _ (HT.out _ s3) HLT.out).mono ?_;rintro e_ v1 ⟨A2,c2,rfl,hs_,hbs⟩;have HSL:=zq hs_;clear hs_;go_wp2_with fail;refine hK.out _ _ ?_ (fun hHeld=>?_)
    ·exact⟨s0.u hbs,s1.u hbs,s2.u hbs,bu s3 hbs⟩
    refine mr4 (fun W_=>SlO stC 2 W_ A2 ((qaC t (stepP q)).length) c2 (qaC t (stepP q))) ⟨s0.u hbs,s1.u hbs,s2.u hbs,bu s3 hbs,HSL.out⟩ (fun h_=>?_);clear hHeld;have hHeld:=h_;clear h_;clear hK K s0 s1 s2 s3
    try simp only[lyZ]
    refine tkZ 9 11 (h:=?_);simp only[lyZ];refine tkZ 10 12 (h:=?_);simp only[lyZ];refine dnZ ?_;have HB:=zq hHeld.2.2.2.1;have HG0:=zq hHeld.1;have HGS:=zq hHeld.2.1;have HG2:=zq hHeld.2.2.1;have HSL:=zq hHeld.2.2.2.2;clear hHeld y0 y1 HCE HCQ;obtain⟨w3,hw3⟩: ∃w3,w3=v1:=⟨_,rfl⟩
    subst hw3;obtain⟨k,hk⟩:=geZ ((qaC t (stepP q)).length);have HK:=zq hk;rw[hk]at HSL;simp only[hk];clear hk;by_cases hle:m<=ah
    ·have x1:rr<=lq:=by have:=HRA.out;omega
     have HLE:=zq hle;clear hle;go_upto_region 15 with fail;clear x1 hl hlk;go_wp2_with (first|(with_reducible refine ldZ 65 HG0.out ?_)|(with_reducible refine ldZ 66 HGS.out ?_));refine(plpos_any t a (stepP q) rr w3 (HT.out w3 HB.out) HQE.out HED.out (by have h1_:=HRA.out;have h2_:=HM.out;have h3_:=qdr HED.out HON.out;have h4_:=dist_ok HED.out HON.out;rw[HRRR.out];omega) (by have h1_:=HRA.out;have h2_:=HLE.out;have h3_:qau t (stepP q).edge=lq:=HLQ.out;rw[h3_];omega)).mono ?_;rw[show posP t (stepP q) rr=qbt q m from by rw[HRRR.out,pos_dist]];rintro e w4 ⟨rfl,hb⟩;have HB:=tB HB hb;have HG0:=uH HG0 hb;have HG2:=uH HG2 hb;clear hb;have HR:=zq (qab HG2.out (psA (qbt q m)));have HBF:=zq (qac (g:=w.heap.size+1+1) HB.out (by omega) (psA (qbt q m)));go_wp2_with (with_reducible refine stZ (psA (qbt q m)) HG2.out ?_)
     try rw[Exit.noGoto_ret]
     refine rtZ HR.out ?_;obtain⟨rfl,rfl⟩:=Prod.mk.inj (HWF.out.symm.trans (qdo (by rw[HAH.out];exact HLE.out)));exact⟨rfl,HBF.out⟩
    have x1: ¬rr<=lq:=by have:=HRA.out;omega
    have HLE:=zq (show qaA t q<m from by rw[HAH.out];omega);clear hle;by_cases hk0:k=0
    ·have x2:(k:Int)=0:=by omega
     have HK0:=zq hk0;clear hk0;have HR:=zq (qab HG2.out #[.int .i64 0,.int .i64 0,.bool false]);have HBF:=zq (qac (g:=w.heap.size+1+1) HB.out (by omega) #[.int .i64 0,.int .i64 0,.bool false]);go_wp2_with (with_reducible refine stZ #[.int .i64 0,.int .i64 0,.bool false] HG2.out ?_)
     try rw[Exit.noGoto_ret]
     refine rtZ HR.out ?_;obtain⟨rfl,rfl⟩:=Prod.mk.inj (show(rP,rE)=(zeroP,141)from HWF.out.symm.trans (walk_end (Int.not_le.2 HLE.out) (HK.out.trans HK0.out)));exact⟨rfl,HBF.out⟩
    have x2: ¬(k:Int)=0:=by omega
    by_cases hk1:1<k
    ·have x3:(1:Int)<k:=by omega
     have HK1:=zq hk1;clear hk1 hk0;have HR:=zq (qab HG2.out #[.int .i64 0,.int .i64 0,.bool false]);have HBF:=zq (qac (g:=w.heap.size+1+1) HB.out (by omega) #[.int .i64 0,.int .i64 0,.bool false]);go_wp2_with (with_reducible refine stZ #[.int .i64 0,.int .i64 0,.bool false] HG2.out ?_)
     try rw[Exit.noGoto_ret]
     refine rtZ HR.out ?_;obtain⟨rfl,rfl⟩:=Prod.mk.inj (show(rP,rE)=(zeroP,140)from HWF.out.symm.trans (qfM (Int.not_le.2 HLE.out) (by rw[HK.out];exact HK1.out)));exact⟨rfl,HBF.out⟩
    have x3: ¬(1:Int)<k:=by omega
    obtain⟨s,hs⟩:=len_one (l:=qaC t (stepP q)) (by rw[HK.out];omega);have HS:=zq hs;rw[hs]at HSL;clear hs;have hk2:k=1:=by omega
    clear hk0 hk1;by_cases hl4:l=40
    ·have x4:(l:Int)=40:=by omega
     have HL4:=zq hl4;clear hl4 hl hlk hk2;have HR:=zq (qab HG2.out #[.int .i64 0,.int .i64 0,.bool false]);have HBF:=zq (qac (g:=w.heap.size+1+1) HB.out (by omega) #[.int .i64 0,.int .i64 0,.bool false]);go_wp2_with (with_reducible refine stZ #[.int .i64 0,.int .i64 0,.bool false] HG2.out ?_)
     try rw[Exit.noGoto_ret]
     refine rtZ HR.out ?_;obtain⟨rfl,rfl⟩:=Prod.mk.inj (show(rP,rE)=(zeroP,2)from HWF.out.symm.trans (by rw[show 40-l=0 by have:=HL4.out;omega];exact walk_long (Int.not_le.2 HLE.out) (by rw[HS.out];rfl)));exact⟨rfl,HBF.out⟩
    have x4: ¬(l:Int)=40:=by omega
    have HL:=zq (show l<40 by omega);clear hl4;go_upto_region 14 with fail;clear x1 x2 x3 x4;have hk3:=hk2;subst hk3;clear HK;have hwr2:IntKind.i64.wrap (rr-lq)=rr-lq:=by have h1_:=HM.out;have h2_:=HAB.out;have h3_:=HRA.out;have h4_:=HLB.out;rw[IntKind.wrap_i64];omega
    have HEB:=zq (show edgeB t s.edge=true from(qbw.1 (show s∈qaC t (stepP q)from by rw[HS.out];exact List.mem_singleton.2 rfl)).2.1);have hx0:([s]:List St3)[0]?=some s:=rfl;obtain⟨bk,off,hA2,e0,e1⟩:=HSL.out.step hx0;have HA2:=zq hA2;simp only[hA2];clear hA2 hx0;simp only[Nat.zero_mul,Nat.add_zero]at e0 e1;have HNS:=zq (qab HGS.out #[.int .i64 s.edge,.bool s.rev]);have HN0:=zq (qae HG0.out (by have:=HGL.out;omega) #[.int .i64 s.edge,.bool s.rev]:Has (w3.setRow gs #[.int .i64 s.edge,.bool s.rev]) (w.heap.size) 27 (tpC t a));have HN2:=zq (qae HG2.out (by have:=HGL.out;omega) #[.int .i64 s.edge,.bool s.rev]:Has (w3.setRow gs #[.int .i64 s.edge,.bool s.rev]) (w.heap.size+1+1) 51 #[.int .i64 0,.int .i64 0,.bool false]);have HNB:=zq (qac (g:=gs) HB.out (by have:=HGL.out;omega) #[.int .i64 s.edge,.bool s.rev]);go_wp2_with (with_reducible refine stZ #[.int .i64 s.edge,.bool s.rev] HGS.out ?_);go_roundg (k1-1)
    case measure=>omega
    case rel=>
     refine⟨l+1,m-ah,_,qb1 t s,by have:=HL.out;omega,by omega,by go_num,rfl,zq (by rw[dist_begin,Int.zero_add];have:=HRA.out;omega),zq (by have h1_:=HM.out;have h2_:=HAB.out;have h3_:=HLE.out;rw[HAH.out]at h3_;omega),zq (begin_on HED.out HEB.out),zq ?_,HNB,HN0,zq (by rw[qcL];exact HNS.out),HN2⟩;rw[<-HAH.out,show 40-(l+1)=40-l-1 by omega,<-walk_next14 (Int.not_le.2 HLE.out) HS.out (by have:=HL.out;omega)];exact HWF.out
   exact AllReadyH.nil
end
section
open Go.RowKit
open Go.Great
theorem on_idx_none {t:Tp3}{p:Ps3}{path:List St3}(h: ∀(i:Nat) (y:St3),path[i]?=some y->eqS (stepP p) y=false)(c:Int):onGo t p path c=none:=by
 induction path generalizing c with
 |nil=>rfl
 |cons x r ih=>
  have h0:=h 0 x rfl;rw[onGo,if_neg (by rw[qaI];intro e;rw[<-e,(qaI x x).2 rfl]at h0;cases h0)];exact ih (fun i y hy=>h (i+1) y (by simpa using hy)) _
theorem on_idx_some {t:Tp3}{p:Ps3}{path:List St3}{j:Nat}{x:St3}(hx:path[j]?=some x)(hp:eqS (stepP p) x=true)(hno: ∀(i:Nat) (y:St3),i<j->path[i]?=some y->eqS (stepP p) y=false):onGo t p path 0=some (distP t p+sumT t (path.take j)):=by
 obtain⟨h1,e⟩:=List.getElem?_eq_some_iff.1 hx;have e1:path=path.take j++path.drop j:=(List.take_append_drop j path).symm;have hn: ∀s∈path.take j,s≠stepP p:=by
  intro s hs e;obtain⟨i,hi,rfl⟩:=List.getElem_of_mem hs;rw[List.length_take]at hi;have h2:=hno i _ (by omega) (List.getElem?_eq_getElem (show i<path.length by omega));rw[List.getElem_take]at e;rw[e,(qaI _ _).2 rfl]at h2
  cases h2
 have hpx:x=stepP p:=((qaI _ _).1 hp).symm;rw[show onGo t p path 0=onGo t p (path.take j++path.drop j) 0 by rw[<-e1],on_app hn,qec hx,if_pos ((qaI _ _).2 hpx)]
 congr 1
 rw[hpx,qb7,qf0];show 0+sumT t (path.take j)+qau t p.edge-qaA t p=qau t p.edge-qaA t p+sumT t (path.take j)
 omega
theorem qcg (t:Tp3)(a:TpA)(id:Int)(rev:Bool)(n:Int)(w:World)(ht:TopR w t a)(hlt:qaJ t=true)(hcj:t.joints.length<=a.cj):
  Calls Tryz.prog 55 #[.agg (tpC t a),.int .i64 id,.bool rev,.int .i64 n] w fun e w'=>e= .returned (.tuple #[.agg (psA (locE t id rev n).1),.int .i64 (locE t id rev n).2])/\Below w.heap.size w w':=by
 obtain⟨rP,hrP⟩: ∃r,(locE t id rev n).1=r:=⟨_,rfl⟩
 obtain⟨rE,hrE⟩: ∃r,(locE t id rev n).2=r:=⟨_,rfl⟩
 have HLE:=zq (show locE t id rev n=(rP,rE)from Prod.ext hrP hrE);rw[hrP,hrE];clear hrP hrE;have HLT:=zq hlt;have HCJ:=zq hcj;obtain⟨cE,hcE⟩: ∃e,qax t=e:=⟨_,rfl⟩
 have HCE:=zq hcE;clear hlt hcj hcE;obtain⟨wa,hwa,hbwa,HWA,HBWA,h0,h1⟩:=bx2Z w 27 (tpC t a) 51 #[.int .i64 0,.int .i64 0,.bool false];have HT:=zq (fun W (hW:Below w.heap.size w W)=>ht.under hW);have HG0:=zq h0;have HG1:=zq h1;clear hwa hbwa h0 h1 ht;go_enter Tryz.func55,Tryz.ntmps55;go_upto_region 1 with fail;rw[HWA.out];clear HWA;go_wp2_with (with_reducible refine ldZ 12 HG0.out ?_);refine(qfw t a wa (HT.out wa HBWA.out) HLT.out HCJ.out).mono ?_;rw[HCE.out];rintro e w1 ⟨rfl,hb⟩;have HB:=HBWA;clear HBWA;have HB:=tB HB hb;have HG0:=uH HG0 hb;have HG1:=uH HG1 hb;clear hb;by_cases z0:cE=0;rotate_left
 ·have x1:(cE !=0)=true:=by simp[z0]
  have x2:(cE==0)=false:=by simp[z0]
  have HZ0:=zq z0;have HR:=zq (qab HG1.out #[.int .i64 0,.int .i64 0,.bool false]);have HBF:=zq (qac (g:=w.heap.size+1) HB.out (by omega) #[.int .i64 0,.int .i64 0,.bool false]);go_wp2_with (with_reducible refine stZ #[.int .i64 0,.int .i64 0,.bool false] HG1.out ?_);refine rtZ HR.out ?_;obtain⟨rfl,rfl⟩:=Prod.mk.inj (show(rP,rE)=(zeroP,1)from HLE.out.symm.trans (loc_bad14 (by rw[HCE.out];exact HZ0.out)));exact⟨rfl,HBF.out⟩
 subst z0;go_upto_region 3 with fail;go_wp2_with (with_reducible refine ldZ 17 HG0.out ?_);refine(otp_bal t a id w1 (HT.out w1 HB.out) HLT.out).mono ?_;rintro e w2 ⟨rfl,hb⟩;have HB:=tB HB hb;have HG0:=uH HG0 hb;have HG1:=uH HG1 hb;clear hb;obtain⟨x,hx⟩:=geZ (balR t id);obtain⟨bs,hbs⟩: ∃b,(balF t id).isSome=b:=⟨_,rfl⟩
 have HX:=zq hx;have HBS:=zq hbs;simp only[hx,hbs];clear hx hbs;have hm5:Has (w2.alloc (.cells #[.int .i64 0,.int .i64 0,.int .i64 0] 151)) w2.heap.size 151 #[.int .i64 0,.int .i64 0,.int .i64 0]:=Has.made _ _ _;have HM5:=zq hm5;obtain⟨w6,hw6⟩:=geZ ((w2.alloc (.cells #[.int .i64 0,.int .i64 0,.int .i64 0] 151)).setRow w2.heap.size (blA x));have hb:Below w2.heap.size w2 w6:=by rw[<-hw6];exact qac (g:=w2.heap.size) (bA) (Nat.le_refl _) _
 have HX6:=zq (show Has w6 w2.heap.size 151 (blA x)from by rw[<-hw6];exact qab HM5.out _);have HWW:=zq hw6;clear hw6 hm5;go_upto_region 4 with(with_reducible refine stZ (blA x) HM5.out ?_)
 rw[HWW.out];clear HWW HM5;have HB:=tB HB hb;have HG0:=uH HG0 hb;have HG1:=uH HG1 hb;clear hb
 cases bs with
 |false=>
  have HR:=zq (qab HG1.out #[.int .i64 0,.int .i64 0,.bool false]);have HBF:=zq (qac (g:=w.heap.size+1) HB.out (by omega) #[.int .i64 0,.int .i64 0,.bool false]);go_wp2_with (with_reducible refine stZ #[.int .i64 0,.int .i64 0,.bool false] HG1.out ?_);refine rtZ HR.out ?_;obtain⟨rfl,rfl⟩:=Prod.mk.inj (show(rP,rE)=(zeroP,4)from HLE.out.symm.trans (loc_none14 HCE.out HBS.out));exact⟨rfl,HBF.out⟩
 |true=>
  have HLE3:=zq (show(rP,rE)=walkE t ⟨x.edge,x.at_,rev⟩ n from by rw[<-HLE.out,loc_some14 HCE.out HBS.out,HX.out]);clear HLE HCE HX HBS;have d1:w6.cell? ⟨w2.heap.size,1,none⟩=some (.int .i64 x.edge):=HX6.out.cell 1;have d2:w6.cell? ⟨w2.heap.size,2,none⟩=some (.int .i64 x.at_):=HX6.out.cell 2;go_upto_region 6 with fail;go_wp2_with (with_reducible refine ldZ 25 HG0.out ?_);refine(opl_walk0 t a ⟨x.edge,x.at_,rev⟩ n w6 (HT.out w6 HB.out) HLT.out HCJ.out).mono ?_;rw[<-HLE3.out];rintro e w7 ⟨rfl,hb⟩;clear d1 d2 HX6;have HB:=tB HB hb;have HG0:=uH HG0 hb;have HG1:=uH HG1 hb;clear hb;have HR:=zq (qab HG1.out (psA rP));have HBF:=zq (qac (g:=w.heap.size+1) HB.out (by omega) (psA rP));go_wp2_with (with_reducible refine stZ (psA rP) HG1.out ?_);refine rtZ HR.out ?_;exact⟨rfl,HBF.out⟩
theorem opl_on (t:Tp3)(a:TpA)(path:List St3)(A:Option Addr)(n c:Nat)(p:Ps3)(w:World)(ht:TopR w t a)(hlt:qaJ t=true)(hcj:t.joints.length<=a.cj)(hp:SlO stC 2 w A n c path)(hn:n<=100)(hc:n<=c):
  Calls Tryz.prog 145 #[.agg (tpC t a),.slice A n c,.agg (psA p)] w fun e w'=>e= .returned (.tuple #[.int .i64 (onE t path p).1,.int .i64 (onE t path p).2])/\Below w.heap.size w w':=by
 obtain⟨rN,hrN⟩: ∃r,(onE t path p).1=r:=⟨_,rfl⟩
 obtain⟨rE,hrE⟩: ∃r,(onE t path p).2=r:=⟨_,rfl⟩
 have HOE:=zq (show onE t path p=(rN,rE)from Prod.ext hrN hrE);rw[hrN,hrE];clear hrN hrE;have HLT:=zq hlt;have HCJ:=zq hcj;have HNL:=zq (show n<=1048576 by omega);have HCN:=zq hc;have HL:=zq hp.1;clear hlt hcj hn hc;obtain⟨wa,hwa,hbwa,HWA,HBWA,h0,h1⟩:=bx2Z w 27 (tpC t a) 51 (psA p);have HT:=zq (fun W (hW:Below w.heap.size w W)=>ht.under hW);have HP:=zq (fun W (hW:Below w.heap.size w W)=>hp.under hW);have HG0:=zq h0;have HG1:=zq h1;obtain⟨b,hb⟩:=geZ (qa4 t p);have HRB:=zq hb;clear hwa hbwa h0 h1 hb ht hp;go_enter Tryz.func145,Tryz.ntmps145;go_upto_region 1 with fail;rw[HWA.out];clear HWA;go_wp2_with (first|(with_reducible refine ldZ 14 HG0.out ?_)|(with_reducible refine ldZ 15 HG1.out ?_));refine(opl_right t a p wa (HT.out wa HBWA.out) HLT.out HCJ.out).mono ?_;rw[HRB.out];rintro e w1 ⟨rfl,hb⟩;have HB:=HBWA;clear HBWA;have HB:=tB HB hb;have HG0:=uH HG0 hb;have HG1:=uH HG1 hb;clear hb
 cases b with
 |false=>
  go_wp2;go_ret2
  obtain⟨rfl,rfl⟩:=Prod.mk.inj (show(rN,rE)=(0,1)from HOE.out.symm.trans (on_bad14 HRB.out));exact⟨rfl,HB.out⟩
 |true=>
  have HRR:=zq (qaQ.1 HRB.out);have HED:=zq (qaD HRR.out.1).1;have HON:=zq HRR.out.2;clear HRR;go_upto_region 3 with fail;go_wp2_with (with_reducible refine ldZ 19 HG0.out ?_);refine(qgh t a path A n c w1 (HT.out w1 HB.out) (HP.out w1 HB.out) HNL.out HLT.out HED.out).mono ?_;rintro e w2 ⟨rfl,hb⟩;have HB:=tB HB hb;have HG0:=uH HG0 hb;have HG1:=uH HG1 hb;clear hb;obtain⟨lN,hlN⟩: ∃x,lenN t path=x:=⟨_,rfl⟩
  obtain⟨lE,hlE⟩: ∃x,lenE t path=x:=⟨_,rfl⟩
  have HLE:=zq hlE;simp only[hlN,hlE];clear hlN hlE;by_cases z0:lE=0;rotate_left
  ·have x1:(lE !=0)=true:=by simp[z0]
   have x2:(lE==0)=false:=by simp[z0]
   have HZ0:=zq z0;go_wp2;go_ret2
   obtain⟨rfl,rfl⟩:=Prod.mk.inj (show(rN,rE)=(0,lE)from HOE.out.symm.trans (by rw[on_len14 HRB.out (by rw[HLE.out];exact HZ0.out),HLE.out]));exact⟨rfl,HB.out⟩
  subst z0;have HLO:=zq (qd8 HLE.out);have HN4:=zq (show n<=40 from by have h1_:=HLO.out.2.1;have h2_:=HL.out;omega);obtain⟨x0,hx0⟩: ∃x,path[0]?=some x:=⟨_,List.getElem?_eq_getElem (Nat.pos_of_ne_zero (fun e_=>HLO.out.1 (List.length_eq_zero_iff.1 e_)))⟩
  obtain⟨bk,off,rfl,-,-⟩:=(HP.out w2 HB.out).step hx0;clear hx0;go_upto_region 6 with fail;go_wp2_with (with_reducible refine ldZ 28 HG1.out ?_);refine(qeD p w2).mono ?_;rintro e w3 ⟨rfl,hb⟩;have HB:=tB HB hb;have HG0:=uH HG0 hb;have HG1:=uH HG1 hb;clear hb;go_wp2_with fail;refine(oixs_any path (stepP p) (some ⟨bk,off,none⟩) n c w3 (HP.out w3 HB.out) HNL.out).mono ?_;rintro e w4 ⟨rfl,hb⟩;have HB:=tB HB hb;have HG0:=uH HG0 hb;have HG1:=uH HG1 hb;clear hb;obtain⟨ix,hix⟩: ∃x,idxL (eqS (stepP p)) path=x:=⟨_,rfl⟩
  have HIX:=zq hix;simp only[hix];clear hix
  rcases qbK (eqS (stepP p)) path 0 with⟨he,hno⟩|⟨j,x,hx,hxp,hno,he⟩
  ·have hie:ix= -1:=by rw[<-HIX.out];exact he
   have hlt:ix<0:=by omega
   have HGO:=zq (on_idx_none (t:=t) hno 0);clear he hno hie;go_wp2;go_ret2
   obtain⟨rfl,rfl⟩:=Prod.mk.inj (show(rN,rE)=(0,4)from HOE.out.symm.trans (on_none14 HRB.out HLE.out HGO.out));exact⟨rfl,HB.out⟩
  have hie:ix=j:=by rw[<-HIX.out];refine he.trans ?_;rw[Nat.zero_add]
  have HGO:=zq (on_idx_some (t:=t) hx hxp hno);have hjn:=(List.getElem?_eq_some_iff.1 hx).1;rw[HL.out]at hjn;have HJN:=zq hjn;clear HIX he hno hx hxp;subst hie;have hge: ¬(j:Int)<0:=by omega
  obtain⟨d,hd⟩: ∃x,distP t p=x:=⟨_,rfl⟩
  have HD:=zq hd;have HDO:=zq (show 0<=d/\d<=1000000 from by rw[<-hd];exact dist_ok HED.out HON.out);clear hd;have hj0:(0:Int)<=j:=by omega
  have hjc:(j:Int)<=c:=by have:=HCN.out;omega
  have hjc2:j<=c:=by have:=HCN.out;omega
  go_upto_region 9 with fail;clear hge;go_wp2_with (first|(with_reducible refine ldZ 33 HG0.out ?_)|(with_reducible refine ldZ 34 HG1.out ?_));refine(qdA t a p w4 (HT.out w4 HB.out) HON.out HED.out).mono ?_;rw[HD.out];rintro e w5 ⟨rfl,hb⟩;have HB:=tB HB hb;have HG0:=uH HG0 hb;have HG1:=uH HG1 hb;clear hb;go_wp2;go_loopg [11,40] n (fun kk v11 v40 wl=> ∃(i:Nat) (sv:Int),i<=j/\j-i<=kk/\v40= .int .i64 i/\v11= .int .i64 (d+sv)/\Hid (sumT t (path.take i)=sv)/\Hid (Below w5.heap.size w5 wl))
  case atStart=>exact⟨0,0,by omega,by omega,rfl,by rw[Int.add_zero],zq (by simp[sumT]),zq (Below.refl _ _)⟩
  obtain⟨i,sv,hi,hik,rfl,rfl,HSV,HBL⟩:=hrel;have HBR:=zq (HB.out.trans (HBL.out.mono HB.out.size));have HSB:=zq (show 0<=sv/\sv<=40000000 from by have h1_:=qcw HED.out (path:=path.take i) (fun s hs=>HLO.out.2.2.1 s (List.mem_of_mem_take hs));have h2_:=HSV.out;have h3_:(path.take i).length<=40:=(by rw[List.length_take];have:=HN4.out;omega);omega);by_cases hlt:i<j;rotate_left
  ·obtain rfl:i=j:=by omega
   have x1: ¬(i:Int)<i:=by omega
   clear hi hik hlt;go_wp2;go_ret2
   obtain⟨rfl,rfl⟩:=Prod.mk.inj (show(rN,rE)=(d+sv,0)from HOE.out.symm.trans (on_some14 HRB.out HLE.out (by rw[HGO.out,HD.out,HSV.out])));exact⟨rfl,HBR.out⟩
  obtain⟨x,hx⟩:=glZ path (i) (by rw[HL.out];have:=HJN.out;omega);have HX:=zq hx;obtain⟨b_,o_,e_,e0,e1⟩:=(HP.out wr HBR.out).step hx;injection e_ with e_
  injection e_ with e1_ e2_ _
  subst e1_ e2_;have hxe:=HLO.out.2.2.1 x (List.mem_of_getElem? hx);have HXE:=zq hxe;have hxe2:=hxe;unfold edgeB at hxe2;simp only[Bool.and_eq_true,decide_eq_true_eq]at hxe2;obtain⟨ke,hke⟩: ∃k:Nat,x.edge=k:=⟨x.edge.toNat,by omega⟩
  have hkl:ke<t.edges.length:=by omega
  obtain⟨be,oe,hae,ce⟩:=(HT.out wr HBR.out).e.edge hkl;have HLA:=zq (show lenAt t x=t.edges.getD ke 0 from by unfold lenAt;rw[hke];rfl);obtain⟨q,hq⟩:=geZ (t.edges.getD ke 0);rw[hq]at HLA ce;have HQ:=zq (show 1<=q/\q<=1000000 from by rw[<-HLA.out];exact qa2 HED.out hxe);have c0:wr.cell? ⟨w.heap.size,0,none⟩=some (.slice (some ⟨be,oe,none⟩) t.edges.length a.ce):=by have h_:=(HG0.out.under HBL.out HG0.out.lt).cell 0;rw[<-hae];exact h_
  obtain⟨ne,hne⟩: ∃m,t.edges.length=m:=⟨_,rfl⟩
  rw[hne]at c0 hkl;rw[hke]at e0;have HC0:=zq c0;have HCE:=zq ce;obtain⟨xe,xr⟩:=x;dsimp only at*;have y0:(0:Int)<=i:=by omega
  have y1:(i:Int)<j:=by omega
  have z0:(0:Int)<=ke:=by omega
  have z1:(ke:Int)<ne:=by omega
  have hwr1:IntKind.i64.wrap (d+sv+q)=d+sv+q:=by have h1_:=HQ.out;have h2_:=HSB.out;have h3_:=HDO.out;rw[IntKind.wrap_i64];omega
  clear hx hxe hxe2 hke hkl hae hq hne c0 ce;obtain⟨k1,hk1⟩: ∃k1,k1=gk:=⟨_,rfl⟩
  subst hk1;obtain⟨wv,hwv⟩: ∃wv,wv=wr:=⟨_,rfl⟩
  subst hwv;go_upto_region 13 with fail;obtain⟨wb,hwb⟩:=geZ (wv.alloc (.cells #[.int .i64 (ke:Int),.bool xr] 30));rw[hwb];have hbb:Below wv.heap.size wv wb:=by rw[<-hwb];exact bA
  have g0:wb.cell? ⟨wv.heap.size,0,none⟩=some (.int .i64 (ke:Int)):=by rw[<-hwb];exact(Has.made _ _ _).cell 0
  have c0:wb.cell? ⟨w.heap.size,0,none⟩=some (.slice (some ⟨be,oe,none⟩) ne a.ce):=(hbb.cell (qag HC0.out)).trans HC0.out;have ce:wb.cell? ⟨be,oe+ke,none⟩=some (.int .i64 q):=(hbb.cell (qag HCE.out)).trans HCE.out;have HBN:=tB HBL hbb;clear hwb hbb e0 e1 y0 y1;have hn40:j<=40:=by have h1_:=HN4.out;have h2_:=HJN.out;omega
  go_wp2;go_roundg (k1-1)
  case measure=>omega
  case rel=>
   exact⟨i+1,sv+q,by omega,by omega,by go_num,by rw[Int.add_assoc],zq (by rw[qeG HX.out,HSV.out,HLA.out]),HBN⟩
end
end Go.Proofs.YtahadmeilajdgaaGreatDoor
