/-
  Our own text, joined.
-/
import Derived.Test.YtahadmeilajdgaaGreatDoorMraa
import Derived.Lib.AppendZerosOnto
import Derived.Lib.SliceRun
import Derived.Deep.LoopGhost
import Derived.Test.YtahadmeilajdgaaGreatDoorMrak
import Derived.Test.YtahadmeilajdgaaGreatDoorMrac
import Derived.Test.YtahadmeilajdgaaGreatDoorMrae
import Derived.BigQuiet
import Derived.IntWalk
import Derived.Test.YtahadmeilajdgaaGreatDoorCards
import Derived.Test.YtahadmeilajdgaaGreatDoorTie
import Derived.WalkKit
import Derived.ProofKit
import Derived.OpenShut
import Derived.Deep.DeepHandedRow
import Derived.Lib.LaidTab
namespace Go.Proofs.YtahadmeilajdgaaGreatDoor
set_option maxRecDepth 100000
set_option maxHeartbeats 8000000
section
open Go.RowKit
inductive Pt where
 |mk (v:Nat) (k:Nat) (body:List Pt)
def nats (l:List Nat):List Value:=l.map fun(n:Nat)=> .int .i64 (n:Int)
def qaK (k:Nat):List Nat:=if k=1 then[1]else if k=2 then[1,2]else[]
structure SlZ (lo hi:Nat) (w:World) (size:Nat) (A:Option Addr) (n c:Nat) (vs:List Value):Prop where
 sl:Sl w size A n c vs
 zone: ∀a,A=some a->lo<=a.block/\a.block<hi
mutual
def PtAt (lo hi:Nat)(w:World):Pt->List Value->Prop
 | .mk v k b,cs=> ∃Ao co Af nf cf fc,cs=[.int .i64 (v:Int),.bool (decide (k=0)),.slice Ao (qaK k).length co,.slice Af nf cf]/\SlZ lo hi w 1 Ao (qaK k).length co (nats (qaK k))/\b.length=nf/\nf<=cf/\SlZ lo hi w 4 Af nf cf fc/\PtsAt lo hi w b fc
def PtsAt (lo hi:Nat)(w:World):List Pt->List Value->Prop
 |[],cs=>cs=[]
 |x::l,cs=> ∃c1 c2,cs=c1++c2/\PtAt lo hi w x c1/\PtsAt lo hi w l c2
end
def Zone (lo hi:Nat)(w w':World):Prop:= ∀k,lo<=k->k<hi->w'.heap[k]?=w.heap[k]?
theorem add_blk (a:Addr)(j:Nat):(a.add j).block=a.block:=by unfold Addr.add;split<;>rfl
theorem SlZ.keep {lo hi lo' hi':Nat}{w w':World}{size:Nat}{A:Option Addr}{n c:Nat}{vs:List Value}(h:SlZ lo hi w size A n c vs)(hz:Zone lo hi w w')(h1:lo'<=lo)(h2:hi<=hi'):SlZ lo' hi' w' size A n c vs:=by
 refine⟨⟨h.sl.1,h.sl.2.1,fun ad ha j u hu=>?_⟩,fun a ha=>?_⟩
 ·have h0:=h.sl.2.2 ad ha j u hu
  obtain⟨z1,z2⟩:=h.zone ad ha;rw[World.cell?_of_block (w:=w) (by rw[add_blk];exact hz _ z1 z2)];exact h0
 ·obtain⟨z1,z2⟩:=h.zone a ha
  exact⟨Nat.le_trans h1 z1,Nat.lt_of_lt_of_le z2 h2⟩
mutual
theorem PtAt.keep {lo hi lo' hi':Nat}{w w':World}(hz:Zone lo hi w w')(h1:lo'<=lo)(h2:hi<=hi'): ∀(x:Pt) (cs:List Value),PtAt lo hi w x cs->PtAt lo' hi' w' x cs
 | .mk v k b,cs,h=>by
  rw[PtAt]at h⊢;obtain⟨Ao,co,Af,nf,cf,fc,e,a1,a2,a3,a4,a5⟩:=h;exact⟨Ao,co,Af,nf,cf,fc,e,a1.keep hz h1 h2,a2,a3,a4.keep hz h1 h2,PtsAt.keep hz h1 h2 b fc a5⟩
theorem PtsAt.keep {lo hi lo' hi':Nat}{w w':World}(hz:Zone lo hi w w')(h1:lo'<=lo)(h2:hi<=hi'): ∀(l:List Pt) (cs:List Value),PtsAt lo hi w l cs->PtsAt lo' hi' w' l cs
 |[],cs,h=>by rw[PtsAt]at h⊢;exact h
 |x::l,cs,h=>by
  rw[PtsAt]at h⊢;obtain⟨c1,c2,e,a1,a2⟩:=h;exact⟨c1,c2,e,PtAt.keep hz h1 h2 x c1 a1,PtsAt.keep hz h1 h2 l c2 a2⟩
end
theorem qe0 {lo hi:Nat}{w:World}: ∀ {l1 l2:List Pt} {c1 c2:List Value},PtsAt lo hi w l1 c1->PtsAt lo hi w l2 c2->PtsAt lo hi w (l1++l2) (c1++c2)
 |[],l2,c1,c2,h1,h2=>by rw[PtsAt]at h1;subst h1;exact h2
 |x::l,l2,c1,c2,h1,h2=>by
  rw[PtsAt]at h1;obtain⟨d1,d2,e,a1,a2⟩:=h1;rw[List.cons_append,PtsAt];exact⟨d1,d2++c2,by rw[e,List.append_assoc],a1,qe0 a2 h2⟩
theorem qgm {lo hi:Nat}{w:World}{x:Pt}{cs:List Value}(h:PtAt lo hi w x cs):cs.length=4/\ ∀u∈cs,u.oneCell'=true:=by
 cases x with
 |mk v k b=>
  rw[PtAt]at h;obtain⟨Ao,co,Af,nf,cf,fc,rfl,_⟩:=h;refine⟨rfl,fun u hu=>?_⟩;simp only[List.mem_cons,List.not_mem_nil,or_false]at hu
  rcases hu with rfl|rfl|rfl|rfl<;>rfl
theorem qfz {lo hi:Nat}{w:World}: ∀ {l:List Pt} {cs:List Value},PtsAt lo hi w l cs->cs.length=l.length*4/\ ∀u∈cs,u.oneCell'=true
 |[],cs,h=>by rw[PtsAt]at h;subst h;exact⟨rfl,fun u hu=>by cases hu⟩
 |x::l,cs,h=>by
  rw[PtsAt]at h;obtain⟨d1,d2,rfl,a1,a2⟩:=h;obtain⟨b1,b2⟩:=qgm a1;obtain⟨b3,b4⟩:=qfz a2;refine⟨by rw[List.length_append,b1,b3,List.length_cons];omega,fun u hu=>?_⟩
  rcases List.mem_append.1 hu with hu|hu
  ·exact b2 u hu
  ·exact b4 u hu
theorem ptsAt_at {lo hi:Nat}{w:World}: ∀ {l:List Pt} {cs:List Value} (pre:List Pt) (x:Pt) (post:List Pt),l=pre++x::post->PtsAt lo hi w l cs-> ∃c1 c2 c3,cs=c1++c2++c3/\c1.length=pre.length*4/\PtAt lo hi w x c2
 |l,cs,[],x,post,e,h=>by
  subst e;rw[List.nil_append,PtsAt]at h;obtain⟨d1,d2,rfl,a1,_⟩:=h;exact⟨[],d1,d2,rfl,rfl,a1⟩
 |l,cs,y::pre,x,post,e,h=>by
  subst e;rw[List.cons_append,PtsAt]at h;obtain⟨d1,d2,rfl,a1,a2⟩:=h;obtain⟨c1,c2,c3,rfl,h1,h2⟩:=ptsAt_at pre x post rfl a2;exact⟨d1++c1,c2,c3,by simp[List.append_assoc],by rw[List.length_append,(qgm a1).1,h1,List.length_cons];omega,h2⟩
structure Parts (lo hi:Nat) (w:World) (A:Option Addr) (n c:Nat) (l:List Pt):Prop where
 len:l.length=n
 cap:n<=c
 mem: ∃cs,SlZ lo hi w 4 A n c cs/\PtsAt lo hi w l cs
theorem qcP {lo:Nat}{w w':World}(hb:Below w.heap.size w w'):Zone lo w.heap.size w w':=fun k _ hk=>hb.block k hk
theorem Parts.keep {lo hi lo' hi':Nat}{w w':World}{A:Option Addr}{n c:Nat}{l:List Pt}(h:Parts lo hi w A n c l)(hz:Zone lo hi w w')(h1:lo'<=lo)(h2:hi<=hi'):Parts lo' hi' w' A n c l:=by
 obtain⟨cs,a,b⟩:=h.mem;exact⟨h.len,h.cap,cs,a.keep hz h1 h2,PtsAt.keep hz h1 h2 l cs b⟩
theorem Parts.under {lo:Nat}{w w':World}{A:Option Addr}{n c:Nat}{l:List Pt}(h:Parts lo w.heap.size w A n c l)(hb:Below w.heap.size w w'):Parts lo w'.heap.size w' A n c l:=
 h.keep (qcP hb) (Nat.le_refl _) hb.size
theorem Parts.beside {lo:Nat}{w:World}{A:Option Addr}{n c:Nat}{l:List Pt}(h:Parts lo w.heap.size w A n c l)(o:Obj):Parts lo (w.alloc o).heap.size (w.alloc o) A n c l:=
 h.under ((Below.refl _ _).alloc (Nat.le_refl _) o)
theorem Parts.lower {lo lo' hi:Nat}{w:World}{A:Option Addr}{n c:Nat}{l:List Pt}(h:Parts lo hi w A n c l)(h1:lo'<=lo):Parts lo' hi w A n c l:=
 h.keep (fun _ _ _=>rfl) h1 (Nat.le_refl _)
theorem Parts.addr {lo hi:Nat}{w:World}{A:Option Addr}{n c:Nat}{l:List Pt}(h:Parts lo hi w A n c l)(hn:0<n): ∃a,A=some a:=by
 obtain⟨cs,hz,_⟩:=h.mem
 cases A with
 |none=>have:=(hz.sl.2.1 rfl).1;omega
 |some a0=>exact⟨a0,rfl⟩
theorem own_cap {w:World}{base:Nat}{e:TypeId}{size n c:Nat}{A:Option Addr}{xs:List Value}(h:w.ownsRow base e size (.slice A n c) n xs):n<=c:=by
 rcases h.2 with⟨e1,e2⟩|⟨g,cap,cur,e1,_,_,e2,_⟩
 ·omega
 ·injection e1 with _ _ e3;omega
theorem slz_own {w:World}{base:Nat}{e:TypeId}{size n c:Nat}{A:Option Addr}{xs:List Value}(h:w.ownsRow base e size (.slice A n c) n xs):SlZ base w.heap.size w size A n c xs:=by
 refine⟨Sl.of_own h,fun a ha=>?_⟩;subst ha;exact h.lt a.block rfl
def qad (vs:List Nat):List Pt:=vs.map fun v=> .mk v 3 []
def qbs (vs:List Nat):List Value:=vs.flatMap fun(v:Nat)=>[.int .i64 (v:Int),.bool false,.slice none 0 0,.slice none 0 0]
theorem slz_nil (lo hi:Nat)(w:World)(size:Nat):SlZ lo hi w size none 0 0 []:=⟨qcv _ _,fun _ h=>by cases h⟩
theorem plain_at (lo hi:Nat)(w:World): ∀vs:List Nat,PtsAt lo hi w (qad vs) (qbs vs)
 |[]=>by show PtsAt lo hi w [] [];rw[PtsAt]
 |v::vs=>by
  show PtsAt lo hi w (.mk v 3 []::qad vs) ([.int .i64 (v:Int),.bool false,.slice none 0 0,.slice none 0 0]++qbs vs)
  rw[PtsAt];refine⟨_,_,rfl,?_,plain_at lo hi w vs⟩;rw[PtAt];exact⟨none,0,none,0,0,[],rfl,slz_nil _ _ _ _,rfl,Nat.le_refl _,slz_nil _ _ _ _,by rw[PtsAt]⟩
theorem qd4:(Tryz.prog.info? 284).map (fun i=>(i.zero,i.size,i.bytes))=some (some (.agg #[.int .i64 0,.bool false,.slice none 0 0,.slice none 0 0]),4,64):=by kernel_rfl
theorem plain_snoc (vs:List Nat)(j:Nat)(h:j<vs.length):qbs (vs.take (j+1))=qbs (vs.take j)++[.int .i64 (vs.getD j 0:Int),.bool false,.slice none 0 0,.slice none 0 0]:=by
 rw[List.take_succ_eq_append_getElem h,qbs,List.flatMap_append,<-qbs];simp[List.getD_eq_getElem?_getD,List.getElem?_eq_getElem h]
theorem plain_any (A:Option Addr)(n c:Nat)(vs:List Nat)(w:World)(hs:Sl w 1 A n c (nats vs))(hn:n<=1000):
  Calls Tryz.prog 245 #[.slice A n c] w fun e w'=> ∃A' c',e= .returned (.slice A' n c')/\w'.ownsRow w.heap.size 284 4 (.slice A' n c') n (qbs vs)/\Below w.heap.size w w':=by
 have hl:vs.length=n:=by have:=hs.1;simpa[nats]using this
 have HS:=zq hs;have HL:=zq hl;clear hs hl;go_enter Tryz.func245,Tryz.ntmps245;go_wp2;go_loopg [3,8] n (fun kk v i wl=> ∃(j:Nat) (A2:Option Addr) (c2:Nat),j<=n/\n-j<=kk/\i= .int .i64 j/\v= .slice A2 j c2/\wl.ownsRow w.heap.size 284 4 (.slice A2 j c2) j (qbs (vs.take j))/\Below w.heap.size w wl)
 case atStart=>exact⟨0,none,0,by omega,by omega,rfl,rfl,World.ownsRow_nil _ _ _ _,Below.refl _ _⟩
 obtain⟨j,A2,c2,hj,hjk,rfl,rfl,ho,hb⟩:=hrel;have HO:=zq ho;have HB:=zq hb;clear ho hb;by_cases hlt:j<n
 ·have hjl:j<vs.length:=by have:=HL.out;omega
  have hsn:=plain_snoc vs j hjl;have hv:(nats vs)[j]?=some (.int .i64 (vs.getD j 0:Int)):=by simp[nats,List.getD_eq_getElem?_getD,List.getElem?_eq_getElem hjl]
  obtain⟨b0,o0,rfl,hc0⟩:=(HS.out.under HB.out).at_ hv;generalize vs.getD j 0=v at*;have HSN:=zq hsn;clear hsn hv hjl;have x0:(0:Int)<=j:=by omega
  have x1:(j:Int)<n:=by omega
  have hN:=zq (show([.int .i64 (v:Int),.bool false,.slice none 0 0,.slice none 0 0]:List Value).length=1*4 from rfl);have hO3:=zq (HO.out.alloc (.cells #[.int .i64 (v:Int),.bool false,.slice none 0 0,.slice none 0 0] 284));have hC:Hid (∀i u,([.int .i64 (v:Int),.bool false,.slice none 0 0,.slice none 0 0]:List Value)[i]?=some u->(wr.alloc (.cells #[.int .i64 (v:Int),.bool false,.slice none 0 0,.slice none 0 0] 284)).cell? ((⟨wr.heap.size,0,none⟩:Addr).add i)=some u):=by
   intro i u hu;rw[WideShapes.add_plain,(Has.made wr 284 _).cell,Nat.zero_add]
   simpa using hu
  have h1c:Hid (∀u∈([.int .i64 (v:Int),.bool false,.slice none 0 0,.slice none 0 0]:List Value),u.oneCell'=true):=by
   intro u hu;simp only[List.mem_cons,List.not_mem_nil,or_false]at hu
   rcases hu with rfl|rfl|rfl|rfl<;>rfl
  have hBD:Hid (j+1<=maxLen/\(j+1)*64<=140737488355328/\w.heap.size<=(wr.alloc (.cells #[.int .i64 (v:Int),.bool false,.slice none 0 0,.slice none 0 0] 284)).heap.size):=zq ⟨by unfold maxLen;omega,by omega,by have:=HB.out.size;simp;omega⟩;have hB3:=zq (HB.out.alloc HB.out.size (.cells #[.int .i64 (v:Int),.bool false,.slice none 0 0,.slice none 0 0] 284));go_wp2_with (with_reducible refine qaZ (o:=⟨some 16,_,_,_,_,_⟩) rfl (.tmp 12) (.tmp 15) 252 rfl w.heap.size 284 (.agg #[.int .i64 0,.bool false,.slice none 0 0,.slice none 0 0]) 4 64 Tryz.underlying252 qd4 ?hz (by decide) A2 j c2 (qbs (vs.take j)) ?hs hO3 ⟨wr.heap.size,0,none⟩ 1 1 [.int .i64 (v:Int),.bool false,.slice none 0 0,.slice none 0 0] ?hx hN hC h1c hBD ?next)
  all_goals try rfl
  intro A4 c4 w4 ho4 hg4;go_wp2;go_roundg (gk-1)
  case measure=>omega
  case rel=>exact⟨j+1,A4,c4,by omega,by omega,by go_num,rfl,by rw[HSN.out];exact ho4.out,qas hB3.out hBD.out.2.2 hO3.out (Nat.le_refl _) rfl hg4.out⟩
 ·obtain rfl:j=n:=by omega
  have e:vs.take j=vs:=by rw[<-HL.out,List.take_length]
  rw[e]at HO;go_wp2;go_ret
  exact⟨A2,c2,rfl,HO.out,HB.out⟩
end
section
open Go.RowKit
theorem grow_room (w:World)(n:Nat)(h0:0<n)(hn:n<=10000):
  ∃G cs,(∀ty,(Builtin.append_ #[252,3] ty #[.slice none 0 0,.int .i64 (n:Nat)]).run Tryz.prog w= .ok (.slice (some ⟨w.heap.size,0,none⟩) n G) (w.drew.alloc (.cells cs 284)))/\n<=G/\G<=maxLen/\cs.size=G*4:=by
 obtain⟨i,hi,hz,hsize,hby⟩:=info_parts qd4;have hold:(Builtin.firstCells i.size 0 (.slice none 0 0)).run Tryz.prog w.drew= .ok ([]:List Value).toArray w.drew:=run_firstCells_none w.drew i.size 0 0 0;have hb:(0+n)*i.bytes<=140737488355328:=by rw[hby];omega
 have h:=fun ty=>Lib.run_append_grow_zeros (P:=Tryz.prog) w 252 3 ty 284 i _ .i64 .i64 Tryz.underlying252 Tryz.underlying3 hi hz none 0 0 [] hold n h0 (by omega) (by omega) (by omega) (by rw[hby];omega) (growslice_fits (by omega) hb);rw[Nat.zero_add]at h;have hge:=grownCap_ge w n 0 284;refine⟨_,_,h,hge,grownCap_le_maxLen w n 0 _ (by unfold maxLen;omega),?_⟩;simp only[Array.size_append,size_zeroCells];show 0+n*4+_*4=_
 omega
theorem qe1 (w:World)(a:Option Addr)(n c k:Nat)(hk:k<=c)(ha:a=none\/ ∃g,a=some ⟨g,0,none⟩):(Instr.sliceAt 252 (.slice a n c) none (some (.int .i64 (k:Nat))) none).run Tryz.prog w= .ok (.slice a k c) w:=by
 obtain⟨i,hi,hz,hsize,hby⟩:=info_parts qd4;have e1:(sizeOf 284).run Tryz.prog w= .ok 4 w:=by simp[sizeOf,run_typeInfo _ hi,hsize]
 have h0:(0:Int)<=(k:Nat):=by omega
 have h1:((k:Nat):Int)<=(c:Nat):=by omega
 have he:Tryz.prog.elem 252=284:=by kernel_rfl
 rcases ha with rfl|⟨g,rfl⟩
 ·simp[Instr.sliceAt,Instr.slice,run_underlying Tryz.underlying252,Instr.sliceBounds,run_sliceBound,h0,h1]
 ·simp[Instr.sliceAt,Instr.slice,run_underlying Tryz.underlying252,Instr.sliceBounds,run_sliceBound,h0,h1,Addr.add]
theorem grow_any (n:Nat)(hn:n<=10000)(w:World):
  Calls Tryz.prog 262 #[.slice none 0 0,.int .i64 (n:Nat)] w fun e w'=> ∃A' c',e= .returned (.slice A' 0 c')/\w'.ownsRow w.heap.size 284 4 (.slice A' 0 c') 0 []/\Below w.heap.size w w':=by
 have h1: ¬((n:Int)<0):=by omega
 by_cases h0:0<n
 ·obtain⟨G,cs,hr,hG,hG2,hsz⟩:=grow_room w n h0 hn
  have hx:(0:Int)<n:=by omega
  have hc1: ∀w,(Instr.sliceAt 252 (.slice none 0 0) none (some (.int .i64 0)) none).run Tryz.prog w= .ok (.slice none 0 0) w:=fun w=>qe1 w none 0 0 0 (by omega) (.inl rfl);have hc2: ∀W:World,(Instr.sliceAt 252 (.slice (some ⟨w.heap.size,0,none⟩) n G) none (some (.int .i64 0)) none).run Tryz.prog W= .ok (.slice (some ⟨w.heap.size,0,none⟩) 0 G) W:=fun W=>qe1 W _ n G 0 (by omega) (.inr ⟨_,rfl⟩);have HR:=zq hr;have HS:=zq hsz;clear hr hsz;go_enter Tryz.func262,Tryz.ntmps262;go_wp2_with (at_builtin;refine Lib.wpList_append_run _ rfl _ _ _ _ rfl _ _ rfl rfl _ _ (HR.out _) ?_);go_wp2;go_ret
  refine⟨_,G,rfl,⟨rfl,.inr ⟨w.heap.size,G,cs,rfl,Nat.le_refl _,?_,by omega,hG2,HS.out,by simp⟩⟩,(qaa (Below.refl _ _) 1).alloc (Nat.le_refl _) _⟩;exact heap_alloc_new w.drew _
 ·obtain rfl:n=0:=by omega
  go_enter Tryz.func262,Tryz.ntmps262;go_wp2;go_ret
  exact⟨none,0,rfl,World.ownsRow_nil _ _ _ _,Below.refl _ _⟩
abbrev SlT:=Option Addr×Nat×Nat×List Value
def sls (L:List SlT):List Value:=L.map fun x=> .slice x.1 x.2.1 x.2.2.1
def cntOf (L:List SlT):Nat:=(L.map fun x=>x.2.1).sum
def qc7 (L:List SlT):List Value:=L.flatMap fun x=>x.2.2.2
theorem cnt_step (L:List SlT)(j:Nat)(h:j<L.length):cntOf (L.take (j+1))=cntOf (L.take j)+L[j].2.1:=by
 rw[List.take_succ_eq_append_getElem h,cntOf,List.map_append,List.sum_append];simp[cntOf,-List.map_take]
theorem cells_step (L:List SlT)(j:Nat)(h:j<L.length):qc7 (L.take (j+1))=qc7 (L.take j)++L[j].2.2.2:=by
 rw[List.take_succ_eq_append_getElem h,qc7,List.flatMap_append];simp[qc7]
theorem cnt_le (L:List SlT)(h: ∀x∈L,x.2.1<=100):cntOf L<=100*L.length:=by
 induction L with
 |nil=>simp[cntOf]
 |cons x l ih=>
  have h1:=h x (by simp);have h2:=ih (fun y hy=>h y (by simp[hy]));have e:cntOf (x::l)=x.2.1+cntOf l:=by simp[cntOf]
  rw[e,List.length_cons];omega
theorem concat_any (A:Option Addr)(n c:Nat)(L:List SlT)(w:World)(hs:Sl w 1 A n c (sls L))(hn:n<=100)(hx: ∀x∈L,Sl w 4 x.1 x.2.1 x.2.2.1 x.2.2.2/\(∀u∈x.2.2.2,u.oneCell'=true)/\x.2.1<=100):
  Calls Tryz.prog 244 #[.slice A n c] w fun e w'=> ∃A' c',e= .returned (.slice A' (cntOf L) c')/\w'.ownsRow w.heap.size 284 4 (.slice A' (cntOf L) c') (cntOf L) (qc7 L)/\Below w.heap.size w w':=by
 have hl:L.length=n:=by have:=hs.1;simpa[sls]using this
 have hat: ∀j,j<n-> ∀W,Below w.heap.size w W-> ∃x,∃hj:j<L.length,x=L[j]/\ ∃b o,A=some ⟨b,o,none⟩/\W.cell? ⟨b,o+j,none⟩=some (.slice x.1 x.2.1 x.2.2.1)/\Sl W 4 x.1 x.2.1 x.2.2.1 x.2.2.2/\(∀u∈x.2.2.2,u.oneCell'=true)/\x.2.1<=100:=by
  intro j hj W hW;have hjl:j<L.length:=by omega
  obtain⟨b,o,e1,e2⟩:=(hs.under hW).at_ (j:=j) (u:= .slice L[j].1 L[j].2.1 L[j].2.2.1) (by simp[sls,List.getElem?_eq_getElem hjl]);obtain⟨h1,h2,h3⟩:=hx L[j] (List.getElem_mem hjl);exact⟨L[j],hjl,rfl,b,o,e1,e2,h1.under hW,h2,h3⟩
 have hcl:=cnt_le L (fun x h=>(hx x h).2.2);have hct: ∀j,j<=n->cntOf (L.take j)<=10000:=fun j hj=>by
  have:=cnt_le (L.take j) (fun x h=>(hx x (List.mem_of_mem_take h)).2.2);rw[List.length_take]at this;omega
 have HAT:=zq hat;have HL:=zq hl;have HCT:=zq hct;have HCL:Hid (cntOf L<=10000):=zq (by omega);clear hs hx hat hl hct hcl;go_enter Tryz.func244,Tryz.ntmps244;go_wp2;go_loop [3,11] (fun v i=> ∃(j t:Nat),j<=n/\i= .int .i64 j/\v= .int .i64 t/\cntOf (L.take j)=t) (fun _ i=>n-(intOf i).toNat)
 case atStart=>exact⟨0,0,by omega,rfl,rfl,rfl⟩
 obtain⟨j,t,hj,rfl,rfl,ht⟩:=hrel;by_cases hlt:j<n
 ·obtain⟨x,hjl,hxe,b,o,rfl,hc,_,_,hx3⟩:=HAT.out j hlt w (Below.refl _ _)
  have hst:=cnt_step L j hjl;have hcb:=HCT.out (j+1) (by omega);rw[ht,<-hxe]at hst;rw[hst]at hcb;obtain⟨xa,xm,xc,xs⟩:=x;simp only at hc hx3 hst hcb;have HST:=zq hst;clear hst ht hxe;have x0:(0:Int)<=j:=by omega
  have x1:(j:Int)<n:=by omega
  have x2: ¬((t:Int)+(xm:Int)<0):=by omega
  go_wp2;go_round
  case rel=>exact⟨j+1,t+xm,by omega,by go_num,by go_num,HST.out⟩
  case measure=>simp[intOf];omega
 ·obtain rfl:j=n:=by omega
  have e:L.take j=L:=by rw[<-HL.out,List.take_length]
  rw[e]at ht;have HTT:=zq ht;have HG:=zq (grow_any t (by rw[<-ht];exact HCL.out) w);clear ht e;go_wp2_with fail;refine HG.out.mono ?_;rintro e w1 ⟨A1,c1,rfl,ho1,hb1⟩;have HO1:=zq ho1;have HB1:=zq hb1;clear ho1 hb1 HG;go_wp2;go_loopg [6,27] j (fun kk v i wl=> ∃(q t2:Nat) (A2:Option Addr) (c2:Nat),q<=j/\j-q<=kk/\i= .int .i64 q/\v= .slice A2 t2 c2/\cntOf (L.take q)=t2/\wl.ownsRow w.heap.size 284 4 (.slice A2 t2 c2) t2 (qc7 (L.take q))/\Below w.heap.size w wl)
  case atStart=>exact⟨0,0,A1,c1,by omega,by omega,rfl,rfl,rfl,HO1.out,HB1.out⟩
  obtain⟨q,t2,A2,c2,hq,hqk,rfl,rfl,ht2,ho,hb⟩:=hrel;have HO:=zq ho;have HB:=zq hb;clear ho hb;by_cases hlt2:q<j
  ·obtain⟨x,hjl,hxe,b,o,rfl,hc,hx1,hx2,hx3⟩:=HAT.out q hlt2 wr HB.out
   have hst:=cnt_step L q hjl;have hse:=cells_step L q hjl;have hcb:=HCT.out (q+1) (by omega);rw[ht2,<-hxe]at hst;rw[<-hxe]at hse;rw[hst]at hcb;obtain⟨xa,xm,xc,xs⟩:=x;simp only at hc hx1 hx2 hx3 hst hse hcb;have HST:=zq hst;have HSE:=zq hse;have HX1:=zq hx1;have HX2:=zq hx2;have hBD:Hid (t2+xm<=maxLen/\(t2+xm)*64<=140737488355328/\w.heap.size<=wr.heap.size):=zq ⟨by unfold maxLen;omega,by omega,HB.out.size⟩;clear hst hse ht2 hxe hx1 hx2;have x0:(0:Int)<=q:=by omega
   have x1:(q:Int)<j:=by omega
   go_wp2_with (with_reducible refine qaP (o:=⟨some 33,_,_,_,_,_⟩) rfl (.tmp 31) (.tmp 32) 252 rfl w.heap.size 284 (.agg #[.int .i64 0,.bool false,.slice none 0 0,.slice none 0 0]) 4 64 Tryz.underlying252 qd4 ?hz (by decide) A2 t2 c2 (qc7 (L.take q)) ?hs HO xa xm xc xs ?hx HX1 HX2 hBD ?next)
   all_goals try rfl
   intro A4 c4 w4 ho4 hg4;go_wp2;go_roundg (gk-1)
   case measure=>omega
   case rel=>exact⟨q+1,t2+xm,A4,c4,by omega,by omega,by go_num,rfl,HST.out,by rw[HSE.out];exact ho4.out,qas HB.out hBD.out.2.2 HO.out (Nat.le_refl _) rfl hg4.out⟩
  ·obtain rfl:q=j:=by omega
   have e:L.take q=L:=by rw[<-HL.out,List.take_length]
   rw[e]at HO ht2;subst ht2;go_wp2;go_ret
   exact⟨A2,c2,rfl,HO.out,HB.out⟩
end
section
open Go.RowKit
theorem qb6 (lo:Nat)(w:World)(t:TypeId)(vs:List Value)(n:Nat)(hn:n=vs.length)(hlo:lo<=w.heap.size):SlZ lo (w.alloc (.cells vs.toArray t)).heap.size (w.alloc (.cells vs.toArray t)) 1 (some ⟨w.heap.size,0,none⟩) n n vs:=by
 refine⟨⟨by omega,fun h=>(by cases h),fun ad ha j u hu=>?_⟩,fun a ha=>?_⟩
 ·cases ha
  rw[WideShapes.add_plain,(Has.made w t vs.toArray).cell,Nat.zero_add]
  simpa using hu
 ·cases ha
  simp;omega
theorem qdR (lo:Nat)(A:Option Addr)(n c:Nat)(vs:List Nat)(w:World)(hs:Sl w 1 A n c (nats vs))(hn:n<=100)(hlo:lo<=w.heap.size):
  Calls Tryz.prog 245 #[.slice A n c] w fun e w'=> ∃A' c',e= .returned (.slice A' n c')/\Parts lo w'.heap.size w' A' n c' (qad vs)/\Below w.heap.size w w':=by
 have hl:vs.length=n:=by have:=hs.1;simpa[nats]using this
 refine(plain_any A n c vs w hs (by omega)).mono ?_;rintro e w' ⟨A',c',rfl,ho,hb⟩;exact⟨A',c',rfl,Parts.lower ⟨by simp[qad,hl],own_cap ho,_,slz_own ho,plain_at _ _ _ vs⟩ hlo,hb⟩
theorem qaG (lo:Nat)(vs:List Nat)(w:World)(hn:vs.length<=100)(hlo:lo<=w.heap.size):
  Calls Tryz.prog 245 #[.slice (some ⟨w.heap.size,0,none⟩) vs.length vs.length] (w.alloc (.cells (nats vs).toArray 3)) fun e w'=> ∃A' c',e= .returned (.slice A' vs.length c')/\Parts lo w'.heap.size w' A' vs.length c' (qad vs)/\Below w.heap.size w w':=by
 refine(qdR lo _ vs.length _ vs _ (qb6 lo w _ (nats vs) vs.length (by simp[nats]) hlo).sl hn (by simp;omega)).mono ?_;rintro e w' ⟨A',c',rfl,hp,hb⟩;exact⟨A',c',rfl,hp,((Below.refl _ w).alloc (Nat.le_refl _) _).trans (hb.mono (by simp))⟩
abbrev PlT:=Option Addr×Nat×Nat×List Pt
def pls (L:List PlT):List Value:=L.map fun x=> .slice x.1 x.2.1 x.2.2.1
def ptsOf (L:List PlT):List Pt:=L.flatMap fun x=>x.2.2.2
def numOf (L:List PlT):Nat:=(L.map fun x=>x.2.1).sum
theorem qfn {lo hi:Nat}{w:World}: ∀(L:List PlT),(∀x∈L,Parts lo hi w x.1 x.2.1 x.2.2.1 x.2.2.2/\x.2.1<=100)-> ∃K:List SlT,sls K=pls L/\cntOf K=numOf L/\PtsAt lo hi w (ptsOf L) (qc7 K)/\ ∀x∈K,Sl w 4 x.1 x.2.1 x.2.2.1 x.2.2.2/\(∀u∈x.2.2.2,u.oneCell'=true)/\x.2.1<=100
 |[],_=>⟨[],rfl,rfl,by show PtsAt lo hi w [] [];rw[PtsAt],fun x h=>by cases h⟩
 |y::L,h=>by
  obtain⟨K,h1,h2,h3,h4⟩:=qfn L (fun x hx=>h x (by simp[hx]));obtain⟨hp,hn⟩:=h y (by simp);obtain⟨cs,hz,ha⟩:=hp.mem;refine⟨(y.1,y.2.1,y.2.2.1,cs)::K,?_,?_,?_,?_⟩
  ·show _::sls K=_::pls L;rw[h1]
  ·have e1:cntOf ((y.1,y.2.1,y.2.2.1,cs)::K)=y.2.1+cntOf K:=by simp[cntOf]
   have e2:numOf (y::L)=y.2.1+numOf L:=by simp[numOf]
   rw[e1,e2,h2]
  ·exact qe0 ha h3
  ·intro x hx
   rcases List.mem_cons.1 hx with rfl|hx
   ·exact⟨hz.sl,(qfz ha).2,hn⟩
   ·exact h4 x hx
theorem num_len {lo hi:Nat}{w:World}: ∀(L:List PlT),(∀x∈L,Parts lo hi w x.1 x.2.1 x.2.2.1 x.2.2.2/\x.2.1<=100)->(ptsOf L).length=numOf L
 |[],_=>rfl
 |y::L,h=>by
  have ih:=num_len L (fun x hx=>h x (by simp[hx]));have h1:=(h y (by simp)).1.len;have e1:ptsOf (y::L)=y.2.2.2++ptsOf L:=rfl;have e2:numOf (y::L)=y.2.1+numOf L:=by simp[numOf]
  rw[e1,e2,List.length_append,ih,h1]
theorem qc8 (lo:Nat)(A:Option Addr)(n c:Nat)(L:List PlT)(w:World)(hs:Sl w 1 A n c (pls L))(hn:n<=100)(hx: ∀x∈L,Parts lo w.heap.size w x.1 x.2.1 x.2.2.1 x.2.2.2/\x.2.1<=100)(hlo:lo<=w.heap.size):
  Calls Tryz.prog 244 #[.slice A n c] w fun e w'=> ∃A' c',e= .returned (.slice A' (numOf L) c')/\Parts lo w'.heap.size w' A' (numOf L) c' (ptsOf L)/\Below w.heap.size w w':=by
 obtain⟨K,h1,h2,h3,h4⟩:=qfn L hx;have hl:=num_len L hx;refine(concat_any A n c K w (by rw[h1];exact hs) hn h4).mono ?_;rintro e w' ⟨A',c',rfl,ho,hb⟩;rw[h2]at ho;refine⟨A',c',by rw[h2],⟨hl,own_cap ho,_,(slz_own ho).keep (fun _ _ _=>rfl) hlo (Nat.le_refl _),PtsAt.keep (qcP hb) (Nat.le_refl _) hb.size _ _ h3⟩,hb⟩
theorem concat_lit (lo:Nat)(L:List PlT)(w:World)(hn:L.length<=100)(hx: ∀x∈L,Parts lo w.heap.size w x.1 x.2.1 x.2.2.1 x.2.2.2/\x.2.1<=100)(hlo:lo<=w.heap.size):
  Calls Tryz.prog 244 #[.slice (some ⟨w.heap.size,0,none⟩) L.length L.length] (w.alloc (.cells (pls L).toArray 252)) fun e w'=> ∃A' c',e= .returned (.slice A' (numOf L) c')/\Parts lo w'.heap.size w' A' (numOf L) c' (ptsOf L)/\Below w.heap.size w w':=by
 refine(qc8 lo _ L.length _ L _ (qb6 lo w _ (pls L) L.length (by simp[pls]) hlo).sl hn (fun x h=>⟨(hx x h).1.beside _,(hx x h).2⟩) (by simp;omega)).mono ?_;rintro e w' ⟨A',c',rfl,hp,hb⟩;exact⟨A',c',rfl,hp,((Below.refl _ w).alloc (Nat.le_refl _) _).trans (hb.mono (by simp))⟩
theorem qgj {lo:Nat}{w:World}{v k:Nat}{b:List Pt}{Ao:Option Addr}{co:Nat}{Af:Option Addr}{nf cf:Nat}(ho:SlZ lo w.heap.size w 1 Ao (qaK k).length co (nats (qaK k)))(hf:Parts lo w.heap.size w Af nf cf b)(hlo:lo<=w.heap.size):
  Parts lo (w.alloc (.cells #[.int .i64 (v:Int),.bool (decide (k=0)),.slice Ao (qaK k).length co,.slice Af nf cf] 284)).heap.size (w.alloc (.cells #[.int .i64 (v:Int),.bool (decide (k=0)),.slice Ao (qaK k).length co,.slice Af nf cf] 284)) (some ⟨w.heap.size,0,none⟩) 1 1 [.mk v k b]:=by
 have hz:Zone lo w.heap.size w (w.alloc (.cells #[.int .i64 (v:Int),.bool (decide (k=0)),.slice Ao (qaK k).length co,.slice Af nf cf] 284)):=qcP (bA);have hs:w.heap.size<=(w.alloc (.cells #[.int .i64 (v:Int),.bool (decide (k=0)),.slice Ao (qaK k).length co,.slice Af nf cf] 284)).heap.size:=by simp
 obtain⟨fc,f1,f2⟩:=hf.mem;refine⟨rfl,Nat.le_refl _,[.int .i64 (v:Int),.bool (decide (k=0)),.slice Ao (qaK k).length co,.slice Af nf cf],⟨⟨rfl,fun h=>(by cases h),fun ad ha j u hu=>?_⟩,fun a ha=>?_⟩,?_⟩
 ·cases ha
  rw[WideShapes.add_plain,(Has.made w 284 _).cell,Nat.zero_add]
  simpa using hu
 ·cases ha
  simp;omega
 ·rw[PtsAt]
  refine⟨_,[],(List.append_nil _).symm,?_,by rw[PtsAt]⟩;rw[PtAt];exact⟨Ao,co,Af,nf,cf,fc,rfl,ho.keep hz (Nat.le_refl _) hs,hf.len,hf.cap,f1.keep hz (Nat.le_refl _) hs,PtsAt.keep hz (Nat.le_refl _) hs _ _ f2⟩
theorem iter_parts (lo:Nat)(A:Option Addr)(n c:Nat)(L:List PlT)(w:World)(hs:Sl w 1 A n c (pls L))(hn:n<=100)(hx: ∀x∈L,Parts lo w.heap.size w x.1 x.2.1 x.2.2.1 x.2.2.2/\x.2.1<=100)(hlo:lo<=w.heap.size):
  Calls Tryz.prog 246 #[.slice A n c] w fun e w'=> ∃A' c',e= .returned (.slice A' 1 c')/\Parts lo w'.heap.size w' A' 1 c' [.mk 27 0 (ptsOf L)]/\Below w.heap.size w w':=by
 have HC:=zq (qc8 lo A n c L w hs hn hx hlo);clear hs hx;go_enter Tryz.func246,Tryz.ntmps246;go_wp2_with fail;refine HC.out.mono ?_;rintro e w1 ⟨A1,c1,rfl,hp1,hb1⟩;have hm:=qgj (v:=27) (k:=0) (slz_nil lo w1.heap.size w1 1) hp1 (Nat.le_trans hlo hb1.size);have HM:=zq hm;have HB:=zq (hb1.alloc hb1.size (.cells #[.int .i64 27,.bool true,.slice none 0 0,.slice A1 (numOf L) c1] 284));clear hp1 hb1 hm HC;go_wp2;go_ret
 exact⟨_,1,rfl,HM.out,HB.out⟩
theorem qcW (lo:Nat)(L:List PlT)(w:World)(hn:L.length<=100)(hx: ∀x∈L,Parts lo w.heap.size w x.1 x.2.1 x.2.2.1 x.2.2.2/\x.2.1<=100)(hlo:lo<=w.heap.size):
  Calls Tryz.prog 246 #[.slice (some ⟨w.heap.size,0,none⟩) L.length L.length] (w.alloc (.cells (pls L).toArray 252)) fun e w'=> ∃A' c',e= .returned (.slice A' 1 c')/\Parts lo w'.heap.size w' A' 1 c' [.mk 27 0 (ptsOf L)]/\Below w.heap.size w w':=by
 refine(iter_parts lo _ L.length _ L _ (qb6 lo w _ (pls L) L.length (by simp[pls]) hlo).sl hn (fun x h=>⟨(hx x h).1.beside _,(hx x h).2⟩) (by simp;omega)).mono ?_;rintro e w' ⟨A',c',rfl,hp,hb⟩;exact⟨A',c',rfl,hp,((Below.refl _ w).alloc (Nat.le_refl _) _).trans (hb.mono (by simp))⟩
theorem qfi (lo v k:Nat)(Ao:Option Addr)(co:Nat)(A:Option Addr)(n c:Nat)(vs:List Nat)(w:World)(hk:k≠0)(ho:SlZ lo w.heap.size w 1 Ao (qaK k).length co (nats (qaK k)))(hs:Sl w 1 A n c (nats vs))(hn:n<=100)(hlo:lo<=w.heap.size):
  Calls Tryz.prog 261 #[.int .i64 (v:Int),.slice Ao (qaK k).length co,.slice A n c] w fun e w'=> ∃A' c',e= .returned (.slice A' 1 c')/\Parts lo w'.heap.size w' A' 1 c' [.mk v k (qad vs)]/\Below w.heap.size w w':=by
 have HC:=zq (qdR lo A n c vs w hs hn hlo);have HO:=zq ho;have HK:=zq hk;obtain⟨m,hm⟩:=geZ ((qaK k).length);rw[hm];have HM:=zq hm;clear hs ho hk hm;go_enter Tryz.func261,Tryz.ntmps261;go_wp2_with fail;refine HC.out.mono ?_;rintro e w1 ⟨A1,c1,rfl,hp1,hb1⟩;have hz:=HO.out.keep (qcP hb1) (Nat.le_refl _) hb1.size;have hm:=qgj (v:=v) (k:=k) hz hp1 (Nat.le_trans hlo hb1.size);rw[decide_eq_false HK.out,HM.out]at hm;have HM:=zq hm;have HB:=zq (hb1.alloc hb1.size (.cells #[.int .i64 (v:Int),.bool false,.slice Ao m co,.slice A1 n c1] 284));clear hp1 hb1 hm hz HC;go_wp2;go_ret
 exact⟨_,1,rfl,HM.out,HB.out⟩
theorem qcD (lo v:Nat)(vs:List Nat)(w:World)(hn:vs.length<=100)(hlo:lo<=w.heap.size):
  Calls Tryz.prog 248 #[.int .i64 (v:Int),.slice (some ⟨w.heap.size,0,none⟩) vs.length vs.length] (w.alloc (.cells (nats vs).toArray 3)) fun e w'=> ∃A' c',e= .returned (.slice A' 1 c')/\Parts lo w'.heap.size w' A' 1 c' [.mk v 1 (qad vs)]/\Below w.heap.size w w':=by
 have h1:=qb6 lo w 3 (nats vs) vs.length (by simp[nats]) hlo;have hb:Below w.heap.size w (w.alloc (.cells (nats vs).toArray 3)):=(Below.refl _ w).alloc (Nat.le_refl _) _;have hlo1:lo<=(w.alloc (.cells (nats vs).toArray 3)).heap.size:=Nat.le_trans hlo hb.size;generalize w.alloc (.cells (nats vs).toArray 3)=w1 at*;have h2:=qb6 lo w1 3 [.int .i64 1] 1 rfl hlo1;have hb2:=hb.alloc hb.size (.cells #[.int .i64 1] 3);have h3:Sl (w1.alloc (.cells #[.int .i64 1] 3)) 1 (some ⟨w.heap.size,0,none⟩) vs.length vs.length (nats vs):=h1.sl.under (bA);have HC:=zq (qfi lo v 1 (some ⟨w1.heap.size,0,none⟩) 1 _ vs.length vs.length vs (w1.alloc (.cells #[.int .i64 1] 3)) (by decide) h2 h3 hn (by simp;omega));have HB:=zq hb2;clear h1 h2 h3 hb hb2;go_enter Tryz.func248,Tryz.ntmps248;go_wp2_with fail;refine HC.out.mono ?_;rintro e w2 ⟨A1,c1,rfl,hp1,hb1⟩;have HP:=zq hp1;have HB2:=tB HB hb1;clear hp1 hb1 HC;go_wp2;go_ret
 exact⟨A1,c1,rfl,HP.out,HB2.out⟩
end
section
open Go.RowKit
theorem may_var (v n:Int)(w:World)(hw:Wd w):
  Calls Tryz.prog 250 #[.int .i64 v,.int .i64 n] w fun e w'=>e= .returned (.bool (mayOf v n))/\w=w':=by
 by_cases h:0<=v/\v<96
 ·by_cases hn:0<=n
  ·have hm:mayOf v n=(decide (n<=qbn v)||(decide (qbk v≠0) &&decide (qbk v<=n) &&decide (n<=qa8 v))):=by simp[mayOf,h,hn]
   rw[hm];clear hm;have c1:=most_any v w hw;have c2:=qeU v w hw;have c3:=special_any v w;generalize qbn v=M at*;generalize qa8 v=G at*;generalize qbk v=S at*;obtain⟨h0,h1⟩:=h;have C1:=zq c1;have C2:=zq c2;have C3:=zq c3;clear c1 c2 c3 hw;by_cases hM:n<=M
   ·rw[decide_eq_true hM,Bool.true_or]
    go_enter Tryz.func250,Tryz.ntmps250;go_wp2_with fail;refine(qcB v h0 h1 w).mono ?_;rintro e w' ⟨rfl,rfl⟩;go_wp2_with fail;refine C3.out.mono ?_;rintro e w' ⟨rfl,rfl⟩;go_wp2_with fail;refine C1.out.mono ?_;rintro e w' ⟨rfl,rfl⟩;go_wp2;go_ret
    exact⟨rfl,rfl⟩
   ·rw[decide_eq_false hM,Bool.false_or]
    by_cases hS:S≠0/\S<=n
    ·have e1:(decide (S≠0) &&decide (S<=n) &&decide (n<=G))=decide (n<=G):=by simp[hS]
     rw[e1];clear e1;obtain⟨hS0,hSn⟩:=hS;have hS1:(S !=0)=true:=by simp[hS0]
     obtain⟨b,hb⟩:=geZ (decide (n<=G));rw[hb];go_enter Tryz.func250,Tryz.ntmps250;go_wp2_with fail;refine(qcB v h0 h1 w).mono ?_;rintro e w' ⟨rfl,rfl⟩;go_wp2_with fail;refine C3.out.mono ?_;rintro e w' ⟨rfl,rfl⟩;go_wp2_with fail;refine C1.out.mono ?_;rintro e w' ⟨rfl,rfl⟩;go_wp2_with fail;refine C2.out.mono ?_;rintro e w' ⟨rfl,rfl⟩
     cases b
     ·have hG: ¬n<=G:=of_decide_eq_false hb
      go_wp2;go_ret
      exact⟨by show Ending.returned (.bool (decide (n<=M)))=_;rw[decide_eq_false (by omega)],rfl⟩
     ·have hG:n<=G:=of_decide_eq_true hb
      go_wp2;go_ret
      exact⟨rfl,rfl⟩
    ·have e1:(decide (S≠0) &&decide (S<=n) &&decide (n<=G))=false:=by
      by_cases h2:S=0
      ·simp[h2]
      ·have: ¬S<=n:=fun h3=>hS ⟨h2,h3⟩
       simp[this]
     rw[e1];clear e1;have HS:=zq hS;clear hS;go_enter Tryz.func250,Tryz.ntmps250;go_wp2_with fail;refine(qcB v h0 h1 w).mono ?_;rintro e w' ⟨rfl,rfl⟩;go_wp2_with fail;refine C3.out.mono ?_;rintro e w' ⟨rfl,rfl⟩;go_wp2_with fail;refine C1.out.mono ?_;rintro e w' ⟨rfl,rfl⟩;by_cases h2:S=0
     ·have hS1:(S !=0)=false:=by simp[h2]
      clear HS;go_wp2;go_ret
      exact⟨by show Ending.returned (.bool (decide (n<=M)))=_;rw[decide_eq_false (by omega)],rfl⟩
     ·have hS1:(S !=0)=true:=by simp[h2]
      have hS2: ¬S<=n:=fun h3=>HS.out ⟨h2,h3⟩;clear HS;go_wp2;go_ret
      exact⟨by show Ending.returned (.bool (decide (n<=M)))=_;rw[decide_eq_false (by omega)],rfl⟩
  ·have hm:mayOf v n=false:=by simp[mayOf,hn]
   rw[hm];clear hm hw;obtain⟨h0,h1⟩:=h;go_enter Tryz.func250,Tryz.ntmps250;go_wp2_with fail;refine(qcB v h0 h1 w).mono ?_;rintro e w' ⟨rfl,rfl⟩;go_wp2;go_ret
   exact⟨rfl,rfl⟩
 ·have hm:mayOf v n=false:=by simp[mayOf,h]
  rw[hm];have H:=zq h;clear hm hw h;go_enter Tryz.func250,Tryz.ntmps250;go_wp2_with fail;refine(exists_no v H.out w).mono ?_;rintro e w' ⟨rfl,rfl⟩;go_wp2;go_ret
  exact⟨rfl,rfl⟩
end
section
open Go.RowKit
open Go.Great
def lineT:Tp3:=⟨[100,200,300],[⟨(0,1),(1,0)⟩,⟨(1,1),(2,0)⟩],[⟨7,0,10⟩,⟨8,1,20⟩,⟨9,2,30⟩],[⟨1,[⟨0,false⟩,⟨1,false⟩],0,30⟩,⟨2,[⟨1,false⟩,⟨2,false⟩],50,20⟩]⟩
theorem qdx:qaJ lineT=true:=by decide+kernel
theorem line_any (w:World):
  Calls Tryz.prog 38 #[] w fun e w'=> ∃a:TpA,e= .returned (.agg (tpC lineT a))/\TopR w' lineT a/\lineT.joints.length<=a.cj/\Below w.heap.size w w':=by
 obtain⟨wa,hwa⟩:=geZ (((((((w.alloc (.cells #[.slice none 0 0,.slice none 0 0,.slice none 0 0,.slice none 0 0] 27)).alloc (.cells #[.int .i64 100,.int .i64 200,.int .i64 300] 3)).alloc (.cells #[.int .i64 0,.int .i64 1,.int .i64 1,.int .i64 0,.int .i64 1,.int .i64 1,.int .i64 2,.int .i64 0] 149)).alloc (.cells #[.int .i64 7,.int .i64 0,.int .i64 10,.int .i64 8,.int .i64 1,.int .i64 20,.int .i64 9,.int .i64 2,.int .i64 30] 151)).alloc (.cells #[.int .i64 0,.bool false,.int .i64 1,.bool false] 30)).alloc (.cells #[.int .i64 1,.bool false,.int .i64 2,.bool false] 30)).alloc (.cells #[.int .i64 1,.slice (some ⟨w.heap.size+1+1+1+1,0,none⟩) 2 2,.int .i64 0,.int .i64 30,.int .i64 2,.slice (some ⟨w.heap.size+1+1+1+1+1,0,none⟩) 2 2,.int .i64 50,.int .i64 20] 75));have hbwa:Below w.heap.size w wa:=by rw[<-hwa];exact((((((bA).alloc (by simp) _).alloc (by simp;omega) _).alloc (by simp;omega) _).alloc (by simp;omega) _).alloc (by simp;omega) _).alloc (by simp;omega) _
 have h0:Has wa (w.heap.size) 27 #[.slice none 0 0,.slice none 0 0,.slice none 0 0,.slice none 0 0]:=by rw[<-hwa];exact(((((((Has.made _ _ _).beside _).beside _).beside _).beside _).beside _).beside _)
 have h1:Has wa (w.heap.size+1) 3 #[.int .i64 100,.int .i64 200,.int .i64 300]:=by rw[<-hwa];exact((((((qbS (by simp)).beside _).beside _).beside _).beside _).beside _)
 have h2:Has wa (w.heap.size+1+1) 149 #[.int .i64 0,.int .i64 1,.int .i64 1,.int .i64 0,.int .i64 1,.int .i64 1,.int .i64 2,.int .i64 0]:=by rw[<-hwa];exact(((((qbS (by simp)).beside _).beside _).beside _).beside _)
 have h3:Has wa (w.heap.size+1+1+1) 151 #[.int .i64 7,.int .i64 0,.int .i64 10,.int .i64 8,.int .i64 1,.int .i64 20,.int .i64 9,.int .i64 2,.int .i64 30]:=by rw[<-hwa];exact((((qbS (by simp)).beside _).beside _).beside _)
 have h4:Has wa (w.heap.size+1+1+1+1) 30 #[.int .i64 0,.bool false,.int .i64 1,.bool false]:=by rw[<-hwa];exact(((qbS (by simp)).beside _).beside _)
 have h5:Has wa (w.heap.size+1+1+1+1+1) 30 #[.int .i64 1,.bool false,.int .i64 2,.bool false]:=by rw[<-hwa];exact((qbS (by simp)).beside _)
 have h6:Has wa (w.heap.size+1+1+1+1+1+1) 75 #[.int .i64 1,.slice (some ⟨w.heap.size+1+1+1+1,0,none⟩) 2 2,.int .i64 0,.int .i64 30,.int .i64 2,.slice (some ⟨w.heap.size+1+1+1+1+1,0,none⟩) 2 2,.int .i64 50,.int .i64 20]:=by rw[<-hwa];exact(qbS (by simp))
 have HWA:=zq hwa;have HBWA:=zq hbwa;have HR:=zq (qab h0 #[.slice (some ⟨w.heap.size+1,0,none⟩) 3 3,.slice (some ⟨w.heap.size+1+1,0,none⟩) 2 2,.slice (some ⟨w.heap.size+1+1+1,0,none⟩) 3 3,.slice (some ⟨w.heap.size+1+1+1+1+1+1,0,none⟩) 2 2]);have HBF:=zq (qac (g:=w.heap.size) hbwa (Nat.le_refl _) #[.slice (some ⟨w.heap.size+1,0,none⟩) 3 3,.slice (some ⟨w.heap.size+1+1,0,none⟩) 2 2,.slice (some ⟨w.heap.size+1+1+1,0,none⟩) 3 3,.slice (some ⟨w.heap.size+1+1+1+1+1+1,0,none⟩) 2 2]);have k1:=qae (g:=w.heap.size) h1 (by omega) #[.slice (some ⟨w.heap.size+1,0,none⟩) 3 3,.slice (some ⟨w.heap.size+1+1,0,none⟩) 2 2,.slice (some ⟨w.heap.size+1+1+1,0,none⟩) 3 3,.slice (some ⟨w.heap.size+1+1+1+1+1+1,0,none⟩) 2 2];have k2:=qae (g:=w.heap.size) h2 (by omega) #[.slice (some ⟨w.heap.size+1,0,none⟩) 3 3,.slice (some ⟨w.heap.size+1+1,0,none⟩) 2 2,.slice (some ⟨w.heap.size+1+1+1,0,none⟩) 3 3,.slice (some ⟨w.heap.size+1+1+1+1+1+1,0,none⟩) 2 2];have k3:=qae (g:=w.heap.size) h3 (by omega) #[.slice (some ⟨w.heap.size+1,0,none⟩) 3 3,.slice (some ⟨w.heap.size+1+1,0,none⟩) 2 2,.slice (some ⟨w.heap.size+1+1+1,0,none⟩) 3 3,.slice (some ⟨w.heap.size+1+1+1+1+1+1,0,none⟩) 2 2];have k4:=qae (g:=w.heap.size) h4 (by omega) #[.slice (some ⟨w.heap.size+1,0,none⟩) 3 3,.slice (some ⟨w.heap.size+1+1,0,none⟩) 2 2,.slice (some ⟨w.heap.size+1+1+1,0,none⟩) 3 3,.slice (some ⟨w.heap.size+1+1+1+1+1+1,0,none⟩) 2 2];have k5:=qae (g:=w.heap.size) h5 (by omega) #[.slice (some ⟨w.heap.size+1,0,none⟩) 3 3,.slice (some ⟨w.heap.size+1+1,0,none⟩) 2 2,.slice (some ⟨w.heap.size+1+1+1,0,none⟩) 3 3,.slice (some ⟨w.heap.size+1+1+1+1+1+1,0,none⟩) 2 2];have k6:=qae (g:=w.heap.size) h6 (by omega) #[.slice (some ⟨w.heap.size+1,0,none⟩) 3 3,.slice (some ⟨w.heap.size+1+1,0,none⟩) 2 2,.slice (some ⟨w.heap.size+1+1+1,0,none⟩) 3 3,.slice (some ⟨w.heap.size+1+1+1+1+1+1,0,none⟩) 2 2];obtain⟨wz,hwz⟩:=geZ (wa.setRow w.heap.size #[.slice (some ⟨w.heap.size+1,0,none⟩) 3 3,.slice (some ⟨w.heap.size+1+1,0,none⟩) 2 2,.slice (some ⟨w.heap.size+1+1+1,0,none⟩) 3 3,.slice (some ⟨w.heap.size+1+1+1+1+1+1,0,none⟩) 2 2]);rw[hwz]at HR HBF k1 k2 k3 k4 k5 k6;have HT:Hid (TopR wz lineT ⟨some ⟨w.heap.size+1,0,none⟩,3,some ⟨w.heap.size+1+1,0,none⟩,2,some ⟨w.heap.size+1+1+1,0,none⟩,3,some ⟨w.heap.size+1+1+1+1+1+1,0,none⟩,2⟩):=zq ⟨⟨rfl,qa3 k1 rfl⟩,⟨rfl,qa3 k2 rfl⟩,⟨rfl,qa3 k3 rfl⟩,⟨[(⟨1,[⟨0,false⟩,⟨1,false⟩],0,30⟩,.slice (some ⟨w.heap.size+1+1+1+1,0,none⟩) 2 2),(⟨2,[⟨1,false⟩,⟨2,false⟩],50,20⟩,.slice (some ⟨w.heap.size+1+1+1+1+1,0,none⟩) 2 2)],rfl,⟨rfl,qa3 k6 rfl⟩,fun p hp=>by
  simp only[List.mem_cons,List.not_mem_nil,or_false]at hp
  rcases hp with rfl|rfl
  ·exact⟨⟨some ⟨w.heap.size+1+1+1+1,0,none⟩,2,rfl,rfl,qa3 k4 rfl⟩,fun A n c e=>by cases e;exact Nat.le_refl _⟩
  ·exact⟨⟨some ⟨w.heap.size+1+1+1+1+1,0,none⟩,2,rfl,rfl,qa3 k5 rfl⟩,fun A n c e=>by cases e;exact Nat.le_refl _⟩⟩⟩
 have HZ:=zq h0;have HWZ:=zq hwz;clear hwz hwa hbwa h0 h1 h2 h3 h4 h5 h6 k1 k2 k3 k4 k5 k6;go_enter Tryz.func38,Tryz.ntmps38;go_upto_region 1 with fail;go_wp2_with (first|(rw[HWA.out];with_reducible refine stZ #[.slice (some ⟨w.heap.size+1,0,none⟩) 3 3,.slice (some ⟨w.heap.size+1+1,0,none⟩) 2 2,.slice (some ⟨w.heap.size+1+1+1,0,none⟩) 3 3,.slice (some ⟨w.heap.size+1+1+1+1+1+1,0,none⟩) 2 2] HZ.out ?_));rw[HWZ.out];refine roZ HR.out ?_;exact⟨_,rfl,HT.out,Nat.le_refl _,HBF.out⟩
end
section
open Go.ChangeShapes Go.WideShapes Go.ChangeAt Go.RowKit
theorem gWidths:Tryz.prog.globalNamed "lineside/vars.widths" =some 0:=by kernel_rfl
theorem gWidthsType:(Tryz.prog.globals[0]?).map (·.type)=some 280:=by kernel_rfl
theorem cellsWidths:Tryz.prog.cellsOf 280=96:=by kernel_rfl
theorem cellsInt:Tryz.prog.cellsOf 3=1:=by kernel_rfl
def qdp:List Int:=vrows.map fun r=>((r.width:Nat):Int)
theorem laid_widths {H:Type}:(Rows.laid_lineside_vars_widths:DataW H)=Lib.tabData .i64 qdp:=by kernel_rfl
theorem wd_of_laid {W:World}(h:laidMetH Tryz.prog [("lineside/vars.widths",Rows.laid_lineside_vars_widths)] W):Wd W:=by
 rw[laid_widths]at h;have ht:Lib.TabIs Tryz.prog W "lineside/vars.widths" .i64 qdp:=
  Lib.tabIs_of_head (rest:=[]) gWidths gWidthsType Tryz.underlying280 Tryz.underlying3 cellsInt cellsWidths h
 intro i hi;have hl:=qbY;have:=ht.cell gWidths i (by simp only[qdp,List.length_map];omega);rw[this];simp[qdp,List.getD_eq_getElem?_getD,List.getElem?_eq_getElem (show i<vrows.length by omega)]
noncomputable def widthsWorld (os:Os):World:=
 {World.holding Tryz.prog os ⟨#[],#[],[]⟩with heap:=(World.holding Tryz.prog os ⟨#[],#[],[]⟩).heap.modify 0 fun
   | .cells _ t frozen=> .cells (qdp.map fun z=>Value.int .i64 z).toArray t frozen
   |o=>o}
end
end Go.Proofs.YtahadmeilajdgaaGreatDoor
