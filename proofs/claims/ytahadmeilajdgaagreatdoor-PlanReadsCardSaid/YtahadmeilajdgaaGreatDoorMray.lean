/-
  Our own text, joined.
-/
import Derived.Test.YtahadmeilajdgaaGreatDoorMrax
import Derived.Test.YtahadmeilajdgaaGreatDoorMral
import Derived.Test.YtahadmeilajdgaaGreatDoorMraa
import Derived.Deep.RegionHeld3
import Derived.StillTailTactics
namespace Go.Proofs.YtahadmeilajdgaaGreatDoor
set_option maxRecDepth 100000
set_option maxHeartbeats 8000000
section
open Go.RowKit
theorem index_any (A:Option Addr)(n c:Nat)(l:List Nat)(x:Int)(w:World)(hs:Sl w 1 A n c (nats l))(hn:n<=100):
  Calls Tryz.prog 269 #[.slice A n c,.int .i64 x] w fun e w'=> ∃r:Int,e= .returned (.int .i64 r)/\(0<=r↔ ∃y∈l,(y:Int)=x)/\w=w':=by
 have hl:l.length=n:=by have:=hs.1;simpa[nats]using this
 have HS:=zq hs;have HL:=zq hl;clear hs hl;go_enter Tryz.func269,Tryz.ntmps269;go_wp2;go_loop [8] (fun i=> ∃j:Nat,j<=n/\i= .int .i64 j/\ ∀q,q<j->(l.getD q 0:Int)≠x) (fun i=>n-(intOf i).toNat)
 case atStart=>exact⟨0,by omega,rfl,fun q h=>by omega⟩
 obtain⟨j,hj,rfl,hq⟩:=hrel;have HQ:=zq hq;clear hq;by_cases hlt:j<n
 ·have hjl:j<l.length:=by have:=HL.out;omega
  obtain⟨b,o,rfl,hc⟩:=HS.out.at_ (j:=j) (u:= .int .i64 (l.getD j 0:Int)) (by simp[nats,List.getD_eq_getElem?_getD,List.getElem?_eq_getElem hjl]);have hm:l.getD j 0∈l:=by rw[List.getD_eq_getElem?_getD,List.getElem?_eq_getElem hjl];exact List.getElem_mem hjl
  have hall: ∀q,q<j+1->(l.getD j 0:Int)≠x->(l.getD q 0:Int)≠x:=fun q h1 h2=>by
   by_cases e:q=j
   ·rw[e];exact h2
   ·exact HQ.out q (by omega)
  have HALL:=zq hall;clear hall;generalize l.getD j 0=y at*;have HM:=zq hm;clear hm hjl;have x0:(0:Int)<=j:=by omega
  have x1:(j:Int)<n:=by omega
  by_cases he:(x:Int)=y
  ·have h1:((x:Int)==(y:Int))=true:=by simp[he]
   have HE:=zq he;clear he;go_wp2;go_ret
   exact⟨j,rfl,⟨fun _=>⟨y,HM.out,HE.out.symm⟩,fun _=>by omega⟩,rfl⟩
  ·have h1:((x:Int)==(y:Int))=false:=by simp[he]
   have HE:=zq he;clear he;go_wp2;go_round
   case rel=>exact⟨j+1,by omega,by go_num,fun q h=>HALL.out q h (fun e=>HE.out e.symm)⟩
   case measure=>simp[intOf];omega
 ·obtain rfl:j=n:=by omega
  go_wp2;go_ret
  refine⟨-1,rfl,⟨fun h=>by omega,fun⟨y,hy,e⟩=>?_⟩,rfl⟩;obtain⟨q,hq1,hq2⟩:=List.getElem_of_mem hy;exact absurd (by rw[List.getD_eq_getElem?_getD,List.getElem?_eq_getElem hq1];simp[hq2,e]) (HQ.out q (by have:=HL.out;omega))
theorem contains_any (A:Option Addr)(n c:Nat)(l:List Nat)(x:Int)(w:World)(hs:Sl w 1 A n c (nats l))(hn:n<=100):
  Calls Tryz.prog 266 #[.slice A n c,.int .i64 x] w fun e w'=>e= .returned (.bool (decide (∃y∈l,(y:Int)=x)))/\w=w':=by
 have HI:=zq (index_any A n c l x w hs hn);obtain⟨b,hb⟩:=geZ (decide (∃y∈l,(y:Int)=x));rw[hb];have HB:=zq hb;clear hs hb;go_enter Tryz.func266,Tryz.ntmps266;go_wp2_with fail;refine HI.out.mono ?_;rintro e w1 ⟨r,rfl,hr,rfl⟩;have HR:=zq hr;clear hr;go_wp2;go_ret
 refine⟨?_,rfl⟩;have h2:decide (0<=r)=b:=by
  rw[<-HB.out];by_cases h:0<=r
  ·rw[decide_eq_true h,decide_eq_true (HR.out.1 h)]
  ·rw[decide_eq_false h,decide_eq_false (fun k=>h (HR.out.2 k))]
 exact congrArg (fun b=>Ending.returned (.bool b)) h2
def qbE (k:Nat)(n:Int):Nat:=if k=3 then 0 else many k n
theorem times_zero (n:Int)(h:0<=n):(qbE 0 n:Int)=n:=by
 unfold qbE many;rw[if_neg (by decide),if_pos rfl];omega
theorem times_only (k:Nat)(n:Int)(h0:k≠0)(h3:k<=3):(qbE k n:Int)=if decide (∃y∈qaK k,(y:Int)=n)=true then 1 else 0:=by
 obtain h|h|h:k=1\/k=2\/k=3:=by omega
 ·subst h
  by_cases e:n=1
  ·subst e;rfl
  ·have: ¬ ∃y∈qaK 1,(y:Int)=n:=by rintro⟨y,hy,h⟩;simp[qaK]at hy;omega
   rw[decide_eq_false this];simp[qbE,many,e]
 ·subst h
  by_cases e:n=1
  ·subst e;rfl
  ·by_cases e2:n=2
   ·subst e2;rfl
   ·have: ¬ ∃y∈qaK 2,(y:Int)=n:=by rintro⟨y,hy,h⟩;simp[qaK]at hy;omega
    rw[decide_eq_false this];simp[qbE,many,e,e2]
 ·subst h
  have: ¬ ∃y∈qaK 3,(y:Int)=n:=by rintro⟨y,hy,_⟩;simp[qaK]at hy
  rw[decide_eq_false this];simp[qbE]
theorem times_le (k:Nat)(n:Int)(_h3:k<=3)(hn:n<=4294967296):qbE k n<=4294967296:=by
 unfold qbE many
 repeat' split
 all_goals omega
theorem times_any (v k:Nat)(Ao:Option Addr)(co:Nat)(f:Value)(n:Int)(w:World)(hk:k<=3)(hn:k=0->0<=n)(hs:Sl w 1 Ao (qaK k).length co (nats (qaK k))):
  Calls Tryz.prog 251 #[.agg #[.int .i64 (v:Int),.bool (decide (k=0)),.slice Ao (qaK k).length co,f],.int .i64 n] w fun e w'=>e= .returned (.int .i64 (qbE k n:Nat))/\Below w.heap.size w w':=by
 by_cases h0:k=0
 ·have ht:=times_zero n (hn h0)
  subst h0;rw[ht];have HB:=zq ((Below.refl w.heap.size w).alloc (Nat.le_refl _) (.cells #[.int .i64 (v:Int),.bool true,.slice Ao 0 co,f] 284));clear hs ht hn;go_enter Tryz.func251,Tryz.ntmps251;go_wp2;go_ret
  exact⟨rfl,HB.out⟩
 ·rw[times_only k n h0 hk,decide_eq_false h0]
  have hlen:(qaK k).length<=100:=by
                       unfold qaK;repeat' split
                       all_goals decide
  have HC:=zq (fun W (hW:Sl W 1 Ao (qaK k).length co (nats (qaK k)))=>contains_any Ao _ co (qaK k) n W hW hlen);have HS:=zq (hs.beside (.cells #[.int .i64 (v:Int),.bool false,.slice Ao (qaK k).length co,f] 284));generalize decide (∃y∈qaK k,(y:Int)=n)=b at*;have HC2:=zq (HC.out _ HS.out);have HB:=zq ((Below.refl w.heap.size w).alloc (Nat.le_refl _) (.cells #[.int .i64 (v:Int),.bool false,.slice Ao (qaK k).length co,f] 284));generalize (qaK k).length=m at*;clear hs hn HC HS hlen h0 hk
  cases b
  all_goals
   go_enter Tryz.func251,Tryz.ntmps251;go_wp2_with fail;refine HC2.out.mono ?_;rintro e w1 ⟨rfl,rfl⟩;go_wp2;go_ret
   exact⟨rfl,HB.out⟩
def KeepWP (w w':World):Prop:= ∀(k:Nat) (cs:Array Value) (t:TypeId) (fr:Nat×Nat),(t=229\/t=284)->w.heap[k]?=some (.cells cs t fr)->w'.heap[k]?=some (.cells cs t fr)
structure FrZ (base lo hi:Nat) (w w':World):Prop where
 b:Below base w w'
 z:Zone lo hi w w'
 t:KeepWP w w'
theorem FrZ.refl (base lo hi:Nat)(w:World):FrZ base lo hi w w:=⟨Below.refl _ _,fun _ _ _=>rfl,fun _ _ _ _ _ h=>h⟩
theorem FrZ.trans {base lo hi:Nat}{a b c:World}(h:FrZ base lo hi a b)(k:FrZ base lo hi b c):FrZ base lo hi a c:=⟨h.b.trans k.b,fun i h1 h2=>(k.z i h1 h2).trans (h.z i h1 h2),fun i cs t fr ht x=>k.t i cs t fr ht (h.t i cs t fr ht x)⟩
theorem qcn {base lo hi:Nat}{w w':World}(hb:Below w.heap.size w w')(hB:base<=w.heap.size)(hh:hi<=w.heap.size):FrZ base lo hi w w':=
 ⟨hb.mono hB,fun k _ h2=>hb.block k (Nat.lt_of_lt_of_le h2 hh),fun k cs t fr _ h=>by rw[hb.block k (Array.getElem?_eq_some_iff.1 h).1];exact h⟩
theorem frz_store {base lo hi g:Nat}{w:World}{t:TypeId}{cs:Array Value}(hh:Has w g t cs)(ht:t≠229/\t≠284)(hg:base<=g)(hz:g<lo\/hi<=g)(hB:base<=w.heap.size)(i:Nat)(u:Value):FrZ base lo hi w (w.setCell ⟨g,i,none⟩ u):=by
 refine⟨qaU hg hB i u,fun k h1 h2=>Below.heap_setCell w _ u k (by show k≠g;omega),fun k cs' t' fr ht' h=>?_⟩;rw[Below.heap_setCell w ⟨g,i,none⟩ u k (by
  show k≠g
  rintro rfl;unfold Has at hh;rw[hh]at h;injection h with h
  injection h with _ h
  subst h;exact ht'.elim ht.1 ht.2)]
 exact h
theorem frz_grown {base lo hi:Nat}{w w':World}{bb sz n:Nat}{e:TypeId}{v:Value}{xs:List Value}(ho:w.ownsRow bb e sz v n xs)(ht:e≠229/\e≠284)(hB:base<=w.heap.size)(hh:hi<=w.heap.size)(hg:w.grownBy w' v.ownBlock)(h1:base<=bb)(h2: ∀k,v.ownBlock=some k->k<lo\/hi<=k):FrZ base lo hi w w':=by
 refine⟨(Below.refl base w).grown hg hB (fun k hk=>Nat.le_trans h1 (ho.lt k hk).1),fun k a b=>hg.block k (Nat.lt_of_lt_of_le b hh) (fun e=>by have:=h2 k e.symm;omega),fun k cs t fr ht' h=>?_⟩;rw[hg.block k (Array.getElem?_eq_some_iff.1 h).1 (fun e'=>?_)]
 ·exact h
 ·rcases ho.2 with⟨rfl,_⟩|⟨g,cap,cur,rfl,_,hh2,_⟩
  ·simp[Value.ownBlock]at e'
  ·have e2:k=g:=by simpa[Value.ownBlock]using e'
   subst e2;rw[hh2]at h;injection h with h
   injection h with _ h
   subst h;exact ht'.elim ht.1 ht.2
theorem Has.frz {base lo hi g:Nat}{w w':World}{t:TypeId}{cs:Array Value}(h:Has w g t cs)(ht:t=229\/t=284)(hf:FrZ base lo hi w w'):Has w' g t cs:=hf.t g cs t (0,0) ht h
theorem Wd.low {w:World}(h:Wd w):0<w.heap.size:=qag (h 0 (by decide))
theorem Wd.frz {base lo hi:Nat}{w w':World}(h:Wd w)(hb:0<base)(hf:FrZ base lo hi w w'):Wd w':=fun i hi=>by
 rw[hf.b.cell (p:=⟨0,i,none⟩) hb];exact h i hi
def panE (e:Int):Ending:= .panicked [{v:= .iface 39 (.int .i64 e),recovered:=false}]
structure NumC (St:World->WS->Prop) (F g base lo hi:Nat):Prop where
 ent: ∀args w,(callFunc F args).run Tryz.prog w= .ok (.enter F args) w
 gb:0<base
 low: ∀w s,St w s->base<=w.heap.size/\hi<=w.heap.size
 under: ∀w w' s,St w s->Below w.heap.size w w'->St w' s
 ok: ∀(v:Nat) (s:WS) (w:World) (k:Nat),v<96->v≠5->St w s->s.e=0->Inv s k->Wd w->(fetch v s).2.e=0->Calls Tryz.prog F #[.pointer (some ⟨g,0,none⟩),.int .i64 (v:Int)] w fun e w'=>e= .returned (.int .i64 (fetch v s).1)/\St w' (keep v (fetch v s).1 (fetch v s).2)/\FrZ base lo hi w w'
 bad: ∀(v:Nat) (s:WS) (w:World) (k:Nat),v<96->v≠5->St w s->s.e=0->Inv s k->Wd w->(fetch v s).2.e≠0->Calls Tryz.prog F #[.pointer (some ⟨g,0,none⟩),.int .i64 (v:Int)] w fun e w'=>e=panE (fetch v s).2.e/\FrZ base lo hi w w'
end
section
open Go.RowKit
mutual
def szPt:Pt->Nat
 | .mk _ k b=>if k=3 then 1 else 1+szPts b
def szPts:List Pt->Nat
 |[]=>0
 |x::l=>szPt x+szPts l
end
theorem szPt_pos (x:Pt):1<=szPt x:=by cases x;rw[szPt];split<;>omega
theorem len_sz: ∀l:List Pt,l.length<=szPts l
 |[]=>Nat.zero_le _
 |x::l=>by rw[List.length_cons,szPts];have:=len_sz l;have:=szPt_pos x;omega
theorem szPts_append (a b:List Pt):szPts (a++b)=szPts a+szPts b:=by
 induction a with
 |nil=>simp[szPts]
 |cons y d ih=>simp only[List.cons_append,szPts,ih];omega
mutual
theorem szPt_le: ∀x:Pt,szPt x<=szL (ndPt x)
 | .mk v k b=>by
  rw[szPt,ndPt];split
  ·simp[szL,szN]
  ·have:=szPts_le b
   simp only[szL,szN];omega
theorem szPts_le: ∀l:List Pt,szPts l<=szL (ndPts l)
 |[]=>by simp[szPts]
 |x::l=>by
  rw[szPts,ndPts,qgt];have:=szPt_le x;have:=szPts_le l;omega
end
mutual
def no5N:Nd->Bool
 | .v n=>decide (n≠5)
 | .g _ b=>no5L b
def no5L:List Nd->Bool
 |[]=>true
 |x::l=>no5N x &&no5L l
end
theorem good_append (a b:List Nd):goodL (a++b)=(goodL a &&goodL b):=by
 induction a with
 |nil=>simp[goodL]
 |cons x l ih=>simp[goodL,ih,Bool.and_assoc]
theorem no5_append (a b:List Nd):no5L (a++b)=(no5L a &&no5L b):=by
 induction a with
 |nil=>simp[no5L]
 |cons x l ih=>simp[no5L,ih,Bool.and_assoc]
theorem c7_append (a b:List Nd):c7 (a++b)=c7 a+c7 b:=by
 induction a with
 |nil=>simp[c7]
 |cons x l ih=>cases x<;>simp[c7,ih];omega
theorem qfp (v k:Nat)(b l:List Pt):ndPts (.mk v k b::l)=(if k=3 then[.v v]else[.v v,.g k (ndPts b)])++ndPts l:=by rw[ndPts,ndPt]
theorem c7_cons (v k:Nat)(b l:List Pt):c7 (ndPts (.mk v k b::l))=(if v=7 then 1 else 0)+c7 (ndPts l):=by
 rw[qfp,c7_append];split<;>simp[c7]
theorem good_cons {v k:Nat}{b l:List Pt}(h:goodL (ndPts (.mk v k b::l))=true):v<96/\k<=3/\(k≠3->goodL (ndPts b)=true/\noL (ndPts b)=true)/\goodL (ndPts l)=true:=by
 rw[qfp,good_append,Bool.and_eq_true]at h;obtain⟨h1,h2⟩:=h;by_cases hk:k=3
 ·rw[if_pos hk]at h1
  simp only[goodL,goodN,Bool.and_true,decide_eq_true_eq]at h1;exact⟨h1,by omega,fun h=>absurd hk h,h2⟩
 ·rw[if_neg hk]at h1
  simp only[goodL,goodN,Bool.and_true,Bool.and_eq_true,decide_eq_true_eq]at h1;exact⟨h1.1,by omega,fun _=>h1.2.2,h2⟩
theorem no5_cons {v k:Nat}{b l:List Pt}(h:no5L (ndPts (.mk v k b::l))=true):v≠5/\(k≠3->no5L (ndPts b)=true)/\no5L (ndPts l)=true:=by
 rw[qfp,no5_append,Bool.and_eq_true]at h;obtain⟨h1,h2⟩:=h;by_cases hk:k=3
 ·rw[if_pos hk]at h1
  simp only[no5L,no5N,Bool.and_true,decide_eq_true_eq]at h1;exact⟨h1,fun h=>absurd hk h,h2⟩
 ·rw[if_neg hk]at h1
  simp only[no5L,no5N,Bool.and_true,Bool.and_eq_true,decide_eq_true_eq]at h1;exact⟨h1.1,fun _=>h1.2,h2⟩
theorem nd_last (l:List Pt)(a b:Int)(s:WS):runL (ndPts l) a s=runL (ndPts l) b s:=by
 cases l with
 |nil=>simp[ndPts,runL]
 |cons x l=>
  cases x with
  |mk v k c=>
   rw[qfp];split<;>(simp only[List.cons_append,List.nil_append,runL,runN];try rfl)
theorem run_cons (v k:Nat)(b l:List Pt)(s:WS)(he:s.e=0):runL (ndPts (.mk v k b::l)) 0 s=if(oneS v s).2.e≠0 then(oneS v s).2 else runL (ndPts l) 0 (repS (fun s=>runL (ndPts b) 0 s) (qbE k (oneS v s).1) (oneS v s).2):=by
 rw[qfp];by_cases h:(oneS v s).2.e≠0
 ·rw[if_pos h]
  split
  ·rw[List.cons_append,runL,if_neg (by omega),runN,qcu _ _ h]
  ·rw[List.cons_append,runL,if_neg (by omega),runN,qcu _ _ h]
 ·rw[if_neg h]
  by_cases hk:k=3
  ·rw[if_pos hk,List.cons_append,runL,if_neg (by omega),runN,List.nil_append,show qbE k (oneS v s).1=0 by rw[hk];rfl,repS]
   exact nd_last l _ _ _
  ·rw[if_neg hk,List.cons_append,runL,if_neg (by omega),runN,List.cons_append,runL,if_neg h,runN,List.nil_append,show qbE k (oneS v s).1=many k (oneS v s).1 by unfold qbE;rw[if_neg hk]]
   exact nd_last l _ _ _
theorem one_fetch_bad (v:Int)(s:WS)(he:s.e=0)(h:(fetch v s).2.e≠0):(oneS v s).2=(fetch v s).2:=by rw[oneS,if_neg (by omega),if_pos h]
theorem one_may_bad (v:Int)(s:WS)(he:s.e=0)(h:(fetch v s).2.e=0)(hm:mayOf v (fetch v s).1=false):(oneS v s).2= {(fetch v s).2 with e:=20} :=by rw[oneS,if_neg (by omega),if_neg (by omega),if_pos hm]
theorem one_fine (v:Int)(s:WS)(he:s.e=0)(h:(fetch v s).2.e=0)(hm:mayOf v (fetch v s).1=true):oneS v s=((fetch v s).1,keep v (fetch v s).1 (fetch v s).2):=by rw[oneS,if_neg (by omega),if_neg (by omega),if_neg (by rw[hm];decide)]
theorem keep_e (v n:Int)(s:WS):(keep v n s).e=s.e:=by unfold keep;split;rfl;split<;>rfl
def ThruPost (St:World->WS->Prop)(base lo hi:Nat)(w:World)(R:WS)(e:Ending)(w':World):Prop:=
 ((R.e=0/\e= .returned (.tuple #[])/\St w' R)\/(R.e≠0/\e=panE R.e))/\FrZ base lo hi w w'
theorem ThruPost.fine {St:World->WS->Prop}{base lo hi:Nat}{w:World}{R:WS}{e:Ending}{w':World}(h:ThruPost St base lo hi w R e w')(h0:R.e=0):e= .returned (.tuple #[])/\St w' R/\FrZ base lo hi w w':=by
 rcases h.1 with⟨_,h1,h2⟩|⟨h1,_⟩
 ·exact⟨h1,h2,h.2⟩
 ·exact absurd h0 h1
theorem ThruPost.bad {St:World->WS->Prop}{base lo hi:Nat}{w:World}{R:WS}{e:Ending}{w':World}(h:ThruPost St base lo hi w R e w')(h0:R.e≠0):e=panE R.e/\FrZ base lo hi w w':=by
 rcases h.1 with⟨h1,_⟩|⟨_,h1⟩
 ·exact absurd h1 h0
 ·exact⟨h1,h.2⟩
end
section
open Go.RowKit
theorem through_any {St:World->WS->Prop}{F g base lo hi:Nat}(NC:NumC St F g base lo hi): ∀(N:Nat),N<=1000-> ∀l:List Pt,szPts l<N->goodL (ndPts l)=true->no5L (ndPts l)=true-> ∀(s:WS) (w:World) (A:Option Addr) (n c k:Nat),St w s->s.e=0->Inv s (k+c7 (ndPts l))->Wd w->Parts lo hi w A n c l->
  Calls Tryz.prog 214 #[.agg #[.func (.func F) #[.pointer (some ⟨g,0,none⟩)] #[]],.slice A n c] w (ThruPost St base lo hi w (runL (ndPts l) 0 s)):=by
 intro N
 induction N with
 |zero=>intro _ l h;exact absurd h (by omega)
 |succ N ih=>
  intro hN l hsz hgood hno5 s w A n c k hst he hinv hwd hpt;have IH:=zq (ih (by omega));clear ih;obtain⟨R,hR⟩:=geZ (runL (ndPts l) 0 s);rw[hR];have hlen:=hpt.len;have hn1:n<=1000:=by have:=len_sz l;omega
  have hent:=NC.ent;obtain⟨low1,low2⟩:=NC.low w s hst;have hb0:Below w.heap.size w (w.alloc (.cells #[.func (.func F) #[.pointer (some ⟨g,0,none⟩)] #[]] 229)):=bA;have HF0:=zq (qcn (lo:=lo) hb0 low1 low2);have HS0:=zq (NC.under _ _ _ hst hb0);have HW0:Hid (Has (w.alloc (.cells #[.func (.func F) #[.pointer (some ⟨g,0,none⟩)] #[]] 229)) w.heap.size 229 #[.func (.func F) #[.pointer (some ⟨g,0,none⟩)] #[]]):=Has.made _ _ _;have HNC:=zq NC;have HP0:=zq hpt;have HI0:=zq hinv;have HG0:=zq hgood;have H50:=zq hno5;have HR:=zq hR;have HSZ:=zq hsz;have HLEN:=zq hlen;have HWD:=zq hwd;have HE0:=zq he;clear hst hinv hgood hno5 hR hsz hlen hwd hpt NC hb0 low1 low2 he;go_enter Tryz.func214,Tryz.ntmps214;go_wp2;go_loopg [9] n (fun kk iv wl=> ∃(done rest:List Pt) (s':WS),l=done++rest/\rest.length<=kk/\iv= .int .i64 done.length/\St wl s'/\s'.e=0/\Has wl w.heap.size 229 #[.func (.func F) #[.pointer (some ⟨g,0,none⟩)] #[]]/\FrZ base lo hi w wl/\Inv s' (k+c7 (ndPts rest))/\goodL (ndPts rest)=true/\no5L (ndPts rest)=true/\runL (ndPts rest) 0 s'=R)
  case atStart=>exact⟨[],l,s,rfl,by rw[HLEN.out];exact Nat.le_refl _,rfl,HS0.out,HE0.out,HW0.out,HF0.out,HI0.out,HG0.out,H50.out,HR.out⟩
  obtain⟨done,rest,s',hl,hkk,rfl,hst,he,hbx,hfr,hinv,hgood,hno5,hrun⟩:=hrel;obtain⟨w1,hw1⟩: ∃w1,w1=wr:=⟨_,rfl⟩
  subst hw1;obtain⟨g1,hg1⟩: ∃g1,g1=gk:=⟨_,rfl⟩
  subst hg1;obtain⟨i,hi⟩:=geZ (done.length);have hnl:n=i+rest.length:=by rw[<-HLEN.out,hl,List.length_append,hi]
  rw[hi];have HL:=zq hl;have HFR:=zq hfr;have HINV:=zq hinv;have HGD:=zq hgood;have H5:=zq hno5;have HRUN:=zq hrun;have HST:=zq hst;have HE:=zq he;have HI:=zq hi;have HBX:=zq hbx;have HKK:=zq hkk;have HNL:=zq hnl;clear hl hfr hinv hgood hno5 hrun hst he hi hbx HS0 HW0 HF0 HI0 HG0 H50 HR HE0 hkk
  cases rest with
  |nil=>
   have hin: ¬(i:Int)<n:=by have:=HNL.out;simp at this;omega
   have hR2:R=s':=by have:=HRUN.out;simp only[ndPts,runL]at this;exact this.symm
   clear hnl;subst hR2;go_wp2;refine bodyPost_end (results_none rfl _ _ _) rfl ?_;exact⟨.inl ⟨HE.out,rfl,HST.out⟩,HFR.out⟩
  |cons x l2=>
   cases x with
   |mk v kd b=>
    have hin:(i:Int)<n:=by have:=HNL.out;rw[List.length_cons]at this;omega
    have hi0:(0:Int)<=i:=by omega
    have hg1:1<=g1/\l2.length<=g1-1:=by have:=HKK.out;rw[List.length_cons]at this;omega
    obtain⟨hg1,hg2⟩:=hg1;clear hnl;obtain⟨hv,hkd,hgb,hgl⟩:=good_cons HGD.out;obtain⟨hv5,h5b,h5l⟩:=no5_cons H5.out;have hrc:=run_cons v kd b l2 s' HE.out;rw[HRUN.out]at hrc
    -- the part's cells
    have hpt1:=HP0.out.keep HFR.out.z (Nat.le_refl _) (Nat.le_refl _);obtain⟨cs,hz,hat⟩:=hpt1.mem;obtain⟨c1,c2,c3,hcs,hc1,hx⟩:=ptsAt_at done (.mk v kd b) l2 HL.out hat
    rw[PtAt]at hx;obtain⟨Ao,co,Af,nf,cf,fc,rfl,ho,hbl,hnf,hf1,hf2⟩:=hx;have hcell: ∀q u,[Value.int .i64 (v:Int),.bool (decide (kd=0)),.slice Ao (qaK kd).length co,.slice Af nf cf][q]?=some u->cs[i*4+q]?=some u:=fun q u hq=>by
     rw[hcs,List.append_assoc,List.getElem?_append_right (by rw[hc1,HI.out];omega),hc1,HI.out,show i*4+q-i*4=q by omega];rw[List.getElem?_append_left (List.getElem?_eq_some_iff.1 hq).1];exact hq
    obtain⟨pb,po,rfl,k0⟩:=hz.sl.at_ (hcell 0 _ rfl);have kq: ∀q u,[Value.int .i64 (v:Int),.bool (decide (kd=0)),.slice Ao (qaK kd).length co,.slice Af nf cf][q]?=some u->w1.cell? ⟨pb,po+i*4+q,none⟩=some u:=fun q u hq=>by
     obtain⟨pb',po',e,h⟩:=hz.sl.at_ (hcell q u hq);simp only[Option.some.injEq,Addr.mk.injEq,and_true]at e;obtain⟨rfl,rfl⟩:=e;rw[Nat.add_assoc];exact h
    have k0:=kq 0 _ rfl;have k1:=kq 1 _ rfl;have k2:=kq 2 _ rfl;have k3:=kq 3 _ rfl;rw[Nat.add_zero]at k0;have hbp:Parts lo hi w1 Af nf cf b:=⟨hbl,hnf,fc,hf1,hf2⟩
    have HBP:=zq hbp;have HO:=zq ho;have HRC:=zq hrc;have HGB:=zq hgb;have H5B:=zq h5b;have HGL:=zq hgl;have H5L:=zq h5l;have HWD1:=zq (HWD.out.frz HNC.out.gb HFR.out);obtain⟨lw1,lw2⟩:=HNC.out.low _ _ HST.out
    -- the part's own block
    obtain⟨m,hm⟩:=geZ ((qaK kd).length);rw[hm]at k2;obtain⟨z0,hz0⟩:=geZ (decide (kd=0));rw[hz0]at k1;have HM:=zq hm;have HZ0:=zq hz0;have hb2:Below w1.heap.size w1 (w1.alloc (.cells #[.int .i64 (v:Int),.bool z0,.slice Ao m co,.slice Af nf cf] 284)):=bA;have HP2:Hid (Has (w1.alloc (.cells #[.int .i64 (v:Int),.bool z0,.slice Ao m co,.slice Af nf cf] 284)) w1.heap.size 284 #[.int .i64 (v:Int),.bool z0,.slice Ao m co,.slice Af nf cf]):=Has.made _ _ _;have HF2:=zq (qcn (lo:=lo) hb2 lw1 lw2);have HST2:=zq (HNC.out.under _ _ _ HST.out hb2);have HBX2:=zq (HBX.out.frz (.inl rfl) HF2.out);have HWD2:=zq (HWD1.out.frz HNC.out.gb HF2.out);have x0:(w1.alloc (.cells #[.int .i64 (v:Int),.bool z0,.slice Ao m co,.slice Af nf cf] 284)).cell? ⟨w.heap.size,0,none⟩=some (.func (.func F) #[.pointer (some ⟨g,0,none⟩)] #[]):=by rw[HBX2.out.cell];rfl
    have x00:w1.cell? ⟨w.heap.size,0,none⟩=some (.func (.func F) #[.pointer (some ⟨g,0,none⟩)] #[]):=by rw[HBX.out.cell];rfl
    clear kq hcell hz hat hcs hc1 hf1 hf2 ho hbl hnf hpt1 hrc hgb h5b hgl h5l hbp hm hz0 HST HBX HWD1 HP0 hb2;obtain⟨n1,hn1e⟩:=geZ ((fetch v s').1);by_cases hf:(fetch v s').2.e=0
    ·have HC:=zq (HNC.out.ok v s' _ _ hv hv5 HST2.out HE.out HINV.out HWD2.out hf)
     have HINO:=zq (inv_oneN v hv s' (k+c7 (ndPts l2)) (by have:=HINV.out;rw[c7_cons]at this;exact qcr this (by omega)));have hbad:=one_may_bad v s' HE.out hf;have hfine:=one_fine v s' HE.out hf;rw[hn1e]at HC hbad hfine;have HBAD:=zq hbad;have HFINE:=zq hfine;have HFE:=zq hf;clear hf hbad hfine hn1e;go_wp2_with fail;refine HC.out.mono ?_;rintro e w3 ⟨rfl,hst3,hf3⟩;have HST3:=zq hst3;have HF3:=zq ((HFR.out.trans HF2.out).trans hf3);have HF13:=zq (HF2.out.trans hf3);have HBX3:=zq (HBX2.out.frz (.inl rfl) hf3);have HP3:=zq (HP2.out.frz (.inr rfl) hf3);have HWD3:=zq (HWD2.out.frz HNC.out.gb hf3);have y0:w3.cell? ⟨w1.heap.size,0,none⟩=some (.int .i64 (v:Int)):=by rw[HP3.out.cell];rfl
     have y1:w3.cell? ⟨w1.heap.size,1,none⟩=some (.bool z0):=by rw[HP3.out.cell];rfl
     have y2:w3.cell? ⟨w1.heap.size,2,none⟩=some (.slice Ao m co):=by rw[HP3.out.cell];rfl
     have y3:w3.cell? ⟨w1.heap.size,3,none⟩=some (.slice Af nf cf):=by rw[HP3.out.cell];rfl
     have HM3:=zq (may_var v n1 w3 HWD3.out);clear hst3 hf3 x0 x00 k0 k1 k2 k3 HC HST2 HBX2 HP2 HWD2 HF2
     cases hmay:mayOf v n1
     ·rw[hmay]at HM3
      have hone:=HBAD.out hmay;have hrc:=HRC.out;rw[hone,if_pos (show(20:Int)≠0 by decide)]at hrc;have HRE:Hid (R.e=20):=zq (by rw[hrc]);clear hone hrc hmay;go_wp2_with fail;refine HM3.out.mono ?_;rintro e w4 ⟨rfl,rfl⟩;go_wp2;exact⟨rfl,.inr ⟨by rw[HRE.out];decide,by rw[HRE.out];rfl⟩,HF3.out⟩
     ·rw[hmay]at HM3
      have hone:=HFINE.out hmay;have hrc:=HRC.out;obtain⟨s2,hs2⟩:=geZ (keep v n1 (fetch v s').2);have hs2e:s2.e=0:=by rw[<-hs2,keep_e];exact HFE.out
      have hino:=HINO.out;rw[hs2]at hone HST3;rw[hone]at hrc hino;rw[if_neg (show¬s2.e≠0 by omega)]at hrc;have hnl:=may_fit v hv n1 hmay;have hn32:=may_small v hv n1 hmay;obtain⟨M,hM⟩:=geZ (qbE kd n1);have hMb:=times_le kd n1 hkd hn32;rw[hM]at hrc hMb;obtain⟨S3,hS3⟩:=geZ (repS (fun s=>runL (ndPts b) 0 s) M s2);rw[hS3]at hrc;have HO3:=HO.out.keep HF13.out.z (Nat.le_refl _) (Nat.le_refl _);have HT:=times_any v kd Ao co (.slice Af nf cf) n1 w3 hkd (fun _=>hnl.1) HO3.sl;rw[HM.out,HZ0.out,hM]at HT;have HT:=zq HT;have HRC2:=zq hrc;have HINO2:=zq hino;have HS2E:=zq hs2e;have HS3:=zq hS3;have HMM:=zq hM;have BS:=zq (HNC.out.low _ _ HST3.out);clear hone hrc hs2 hs2e hino hnl hn32 hM hS3 HO3 hmay HBAD HFINE HFE HINO HRC HO;go_wp2_with fail;refine HM3.out.mono ?_;rintro e w4 ⟨rfl,rfl⟩;go_wp2_with fail;refine HT.out.mono ?_;rintro e w5 ⟨rfl,hb5⟩;have hf5:=qcn (lo:=lo) hb5 BS.out.1 BS.out.2;have HST5:=zq (HNC.out.under _ _ _ HST3.out hb5);have HBX5:=zq (HBX3.out.frz (.inl rfl) hf5);have HP5:=zq (HP3.out.frz (.inr rfl) hf5);have HF5:=zq (HF3.out.trans hf5);have HF15:=zq (HF13.out.trans hf5);clear hb5 hf5 HT HM3 y0 y1 y2 y3 HST3 HBX3 HP3 HWD3 HF3 HF13;go_wp2;go_loopg [27] M (fun kq iv wl=> ∃(j:Nat) (s4:WS),j<=M/\M-j<=kq/\iv= .int .i64 j/\St wl s4/\s4.e=0/\Has wl w.heap.size 229 #[.func (.func F) #[.pointer (some ⟨g,0,none⟩)] #[]]/\Has wl w1.heap.size 284 #[.int .i64 (v:Int),.bool z0,.slice Ao m co,.slice Af nf cf]/\FrZ base lo hi w wl/\FrZ base lo hi w1 wl/\Inv s4 (k+c7 (ndPts l2))/\repS (fun s=>runL (ndPts b) 0 s) (M-j) s4=S3)
      case atStart=>exact⟨0,s2,by omega,by omega,rfl,HST5.out,HS2E.out,HBX5.out,HP5.out,HF5.out,HF15.out,HINO2.out,HS3.out⟩
      obtain⟨j,s4,hj,hjk,rfl,hst,he4,hbx,hpp,hfr4,hf14,hinv4,hrep⟩:=hrel;have HWD4:=zq (HWD.out.frz HNC.out.gb hfr4);have y3:wr.cell? ⟨w1.heap.size,3,none⟩=some (.slice Af nf cf):=by rw[hpp.cell];rfl
      have y4:wr.cell? ⟨w.heap.size,0,none⟩=some (.func (.func F) #[.pointer (some ⟨g,0,none⟩)] #[]):=by rw[hbx.cell];rfl
      have HST4:=zq hst;have HBX4:=zq hbx;have HP4:=zq hpp;have HF4:=zq hfr4;have HF14:=zq hf14;have HI4:=zq hinv4;have HREP:=zq hrep;have HE4:=zq he4;clear hst hbx hpp hfr4 hf14 hinv4 hrep he4 HST5 HBX5 HP5 HF5 HF15;by_cases hlt:j<M
      ·have hk3:kd≠3:=fun e=>by
        have:=HMM.out;rw[e]at this;simp[qbE]at this;omega
       have hszb:szPts b<N:=by
        have:=HSZ.out;have h1:szPts l=szPts done+szPts (.mk v kd b::l2):=by rw[HL.out,szPts_append]
        have h2:szPts (.mk v kd b::l2)=1+szPts b+szPts l2:=by rw[szPts,szPt,if_neg hk3]
        omega
       obtain⟨hg5,hno7⟩:=HGB.out hk3;have hrep:=HREP.out;rw[show M-j=(M-(j+1))+1 by omega,repS,if_neg (by rw[HE4.out];decide)]at hrep;have hcl:=IH.out b hszb hg5 (H5B.out hk3) s4 wr Af nf cf (k+c7 (ndPts l2)) HST4.out HE4.out (by rw[qge _ hno7];exact HI4.out) HWD4.out (HBP.out.keep HF14.out.z (Nat.le_refl _) (Nat.le_refl _));have hin5:=qcs (ndPts b) 0 s4 (k+c7 (ndPts l2)) hg5 (by rw[qge _ hno7];exact HI4.out);obtain⟨s6,hs6⟩:=geZ (runL (ndPts b) 0 s4);simp only[hs6]at hcl hrep hin5;have HCL:=zq hcl;have HREP2:=zq hrep;have HIN5:=zq hin5;have x0:(0:Int)<=j:=by omega
       have x1:(j:Int)<M:=by omega
       clear hcl hrep hin5 hs6 hno7 hg5 hszb hk3 HREP;by_cases h6:s6.e=0
       ·have HCC:=zq (HCL.out.mono fun e w' h=>h.fine h6)
        have H6:=zq h6;clear h6 HCL;go_wp2_with fail;refine HCC.out.mono ?_;rintro e w6 ⟨rfl,hst6,hf6⟩;have HST6:=zq hst6;have HF6:=zq hf6;clear hst6 hf6 HCC y3 y4;go_wp2;go_roundg (gk-1)
        case measure=>omega
        case rel=>exact⟨j+1,s6,by omega,by omega,by go_num,HST6.out,H6.out,HBX4.out.frz (.inl rfl) HF6.out,HP4.out.frz (.inr rfl) HF6.out,HF4.out.trans HF6.out,HF14.out.trans HF6.out,HIN5.out,HREP2.out⟩
       ·have HCC:=zq (HCL.out.mono fun e w' h=>h.bad h6)
        have hrep:=HREP2.out;rw[qe7 _ _ h6]at hrep;have hrc:=HRC2.out;rw[<-hrep,qcu _ _ h6]at hrc;have HRE:Hid (R.e=s6.e):=zq (by rw[hrc]);have H6:=zq h6;clear h6 hrep hrc HCL;unfold panE at HCC;go_wp2_with fail;refine HCC.out.mono ?_;rintro e w6 ⟨rfl,hf6⟩;have HF6:=zq hf6;clear hf6 HCC y3 y4;go_wp2;exact⟨rfl,.inr ⟨by rw[HRE.out];exact H6.out,by rw[HRE.out];rfl⟩,HF4.out.trans HF6.out⟩
      ·obtain rfl:j=M:=by omega
       have hrep:=HREP.out;rw[Nat.sub_self,repS]at hrep;have hrc:=HRC2.out;rw[<-hrep]at hrc;have HRC3:=zq hrc.symm;clear hrep hrc y3 y4;go_wp2;go_roundg (g1-1)
       case measure=>omega
       case rel=>exact⟨done++[.mk v kd b],l2,s4,by rw[HL.out];simp,hg2,by rw[List.length_append,HI.out];rfl,HST4.out,HE4.out,HBX4.out,HF4.out,HI4.out,HGL.out,H5L.out,HRC3.out⟩
    ·have HC:=zq (HNC.out.bad v s' _ _ hv hv5 HST2.out HE.out HINV.out HWD2.out hf)
     have hone:=one_fetch_bad v s' HE.out hf;have hrc:=HRC.out;rw[hone,if_pos hf]at hrc;have HRE:Hid (R.e=(fetch v s').2.e):=zq (by rw[hrc]);have HFN:=zq hf;clear hone hrc hf hn1e;unfold panE at HC;go_wp2_with fail;refine HC.out.mono ?_;rintro e w3 ⟨rfl,hf3⟩;have HF3:=zq ((HFR.out.trans HF2.out).trans hf3);clear hf3;go_wp2;exact⟨rfl,.inr ⟨by rw[HRE.out];exact HFN.out,by rw[HRE.out];rfl⟩,HF3.out⟩
end
section
open Go.RowKit
theorem qdq {P:Program}{ops:Array Oper}{rest:List Oper}{o:Oper}{a:Act}{w:World}{Q:Exit->Act->World->Prop}(hgd:o.guard=none)(s x:Operand)(t:TypeId)
  (ho:o.op= .call {callee:= .builtin .append,args:=#[s,x],argTypes:=#[t,t]})
  (base:Nat) (e:TypeId) (z:Value) (size bytes:Nat) (ht:P.underlying t=some (.slice e)) (hinfo:(P.info? e).map (fun i=>(i.zero,i.size,i.bytes))=some (some z,size,bytes))
  (hzs:z.cells.size=size) (hsz:0<size)
  (A:Option Addr) (n c:Nat) (xs:List Value) (hs:a.eval s= .slice A n c) (hown:Hid (w.ownsRow base e size (.slice A n c) n xs))
  (ad:Addr) (m cc:Nat) (news:List Value) (hx:a.eval x= .slice (some ad) m cc) (hl:Hid (news.length=m*size)) (hnews:Hid (∀j u,news[j]?=some u->w.cell? (ad.add j)=some u)) (h1:Hid (∀u∈news,u.oneCell'=true))
  (hb:Hid (n+m<=maxLen/\(n+m)*bytes<=140737488355328/\base<=w.heap.size))
  (h: ∀A' c' w',Hid (w'.ownsRow base e size (.slice A' (n+m) c') (n+m) (xs++news))->Hid (w.grownBy w' (Value.ownBlock (.slice A n c)))->Hid (Value.ownBlock (.slice A' (n+m) c')=Value.ownBlock (.slice A n c)\/Value.ownBlock (.slice A' (n+m) c')=some w.heap.size)->
   wpList P ops Q rest (a.put o.dst (.slice A' (n+m) c')) w'):wpList P ops Q (o::rest) a w:=by
 obtain⟨i,hi,hz,hsize,hby⟩:=info_parts hinfo;refine wpList_append_own_at w hgd s x t ho base e i z size bytes ht hi hz hsize hby hzs hsz (.slice A n c) n xs hs hown.out ad m cc news hx hl.out hnews.out h1.out hb.out.1 hb.out.2.1 hb.out.2.2 ?_;intro v' w' h2 h3 _ h5;obtain⟨A',c',rfl⟩:=qdi h2;exact h A' c' w' h2 h3 h5
structure EnR (base lo hi:Nat) (w:World) (s:WS) (AV:Option Addr) (nV cV:Nat) (AO:Option Addr) (nO cO:Nat):Prop where
 v:SlI base w AV nV cV s.V
 len:s.out.length=nO
 o:w.ownsRow base 185 2 (.slice AO nO cO) nO (pairs s.out)
 oz: ∀k,Value.ownBlock (.slice AO nO cO)=some k->k<lo\/hi<=k
 wid: ∀x∈s.out,0<=x.2/\x.2<=64
def enCells (id:Int)(s:WS)(size:Int)(AV:Option Addr)(nV cV:Nat)(AO:Option Addr)(nO cO:Nat):Array Value:=#[.int .i64 id,.slice AV nV cV,.slice AO nO cO,.int .i64 size,.int .i64 s.place]
structure EnAt (base lo hi g:Nat) (id:Int) (w:World) (s:WS):Prop where
 gb:base<=g
 gz:g<lo\/hi<=g
 sz:base<=w.heap.size/\hi<=w.heap.size
 rd:s.rd=false
 mem: ∃AV nV cV AO nO cO,Has w g 227 (enCells id s (qar s.out) AV nV cV AO nO cO)/\EnR base lo hi w s AV nV cV AO nO cO
section
variable {base lo hi g:Nat} {w w':World} {s:WS} {AV:Option Addr} {nV cV:Nat} {AO:Option Addr} {nO cO:Nat} {id:Int}
theorem EnR.under (h:EnR base lo hi w s AV nV cV AO nO cO)(hb:Below w.heap.size w w')(hB:base<=w.heap.size):EnR base lo hi w' s AV nV cV AO nO cO:=
 ⟨h.v.below (hb.mono hB),h.len,qdj h.o hb (Nat.le_refl _),h.oz,h.wid⟩
theorem EnAt.under (h:EnAt base lo hi g id w s)(hb:Below w.heap.size w w'):EnAt base lo hi g id w' s:=by
 obtain⟨AV,nV,cV,AO,nO,cO,h1,h2⟩:=h.mem;exact⟨h.gb,h.gz,⟨Nat.le_trans h.sz.1 hb.size,Nat.le_trans h.sz.2 hb.size⟩,h.rd,AV,nV,cV,AO,nO,cO,h1.u hb,h2.under hb h.sz.1⟩
theorem EnR.store {cs:Array Value}(h:EnR base lo hi w s AV nV cV AO nO cO)(hh:Has w g 227 cs)(hg:base<=g)(hB:base<=w.heap.size)(i:Nat)(u:Value):EnR base lo hi (w.setCell ⟨g,i,none⟩ u) s AV nV cV AO nO cO:=by
 have hgr:w.grownBy (w.setCell ⟨g,i,none⟩ u) (some g):=qb9 (qbB w (some g)) rfl u;exact⟨h.v.below (qaU hg hB i u),h.len,qeg h.o hgr (qa0 h.o hh (by decide)),h.oz,h.wid⟩
theorem qck {cs:Array Value}(hh:Has w g 227 cs)(hg:base<=g)(hz:g<lo\/hi<=g)(hB:base<=w.heap.size)(i:Nat)(u:Value):FrZ base lo hi w (w.setCell ⟨g,i,none⟩ u):=
 frz_store hh (by decide) hg hz hB i u
theorem EnR.grow (h:EnR base lo hi w s AV nV cV AO nO cO)(hB:base<=w.heap.size)(hh:hi<=w.heap.size)(n k:Int)(hk:0<=k/\k<=64)(A':Option Addr)(c':Nat)(ho:w'.ownsRow base 185 2 (.slice A' (nO+1) c') (nO+1) (pairs s.out++[.int .i64 n,.int .i64 k]))(hg:w.grownBy w' (Value.ownBlock (.slice AO nO cO)))
  (hb:Value.ownBlock (.slice A' (nO+1) c')=Value.ownBlock (.slice AO nO cO)\/Value.ownBlock (.slice A' (nO+1) c')=some w.heap.size):
  EnR base lo hi w' {s with out:=s.out++[(n,k)]} AV nV cV A' (nO+1) c'/\FrZ base lo hi w w':=by
 have hf:FrZ base lo hi w w':=frz_grown h.o (by decide) hB hh hg (Nat.le_refl _) h.oz;refine⟨⟨h.v.below hf.b,by simp[h.len],by simpa[pairs]using ho,fun k hk=>?_,fun x hx=>?_⟩,hf⟩
 ·rcases hb with e|e
  ·rw[e]at hk;exact h.oz k hk
  ·rw[e]at hk;injection hk with hk;omega
 ·rcases List.mem_append.1 hx with hx|hx
  ·exact h.wid x hx
  ·rw[List.mem_singleton]at hx;subst hx;exact hk
end
theorem next_nil (base lo hi g:Nat)(id:Int)(s:WS)(w:World)(h:EnAt base lo hi g id w s)(hV:s.V=[]):
  Calls Tryz.prog 211 #[.pointer (some ⟨g,0,none⟩)] w fun e w'=>e=panE 20/\w=w':=by
 obtain⟨AV,nV,cV,AO,nO,cO,h1,h2⟩:=h.mem;have hn:nV=0:=by rw[<-h2.v.len,hV];rfl
 subst hn;have k1:w.cell? ⟨g,1,none⟩=some (.slice AV 0 cV):=by rw[h1.cell];rfl
 clear h1 h2 h;unfold panE;go_enter Tryz.func211,Tryz.ntmps211;go_wp2;exact⟨rfl,rfl,rfl⟩
theorem next_some (base lo hi g:Nat)(id:Int)(s:WS)(V0:Int)(VT:List Int)(w:World)(h:EnAt base lo hi g id w s)(hV:s.V=V0::VT):
  Calls Tryz.prog 211 #[.pointer (some ⟨g,0,none⟩)] w fun e w'=>e= .returned (.int .i64 V0)/\EnAt base lo hi g id w' {s with V:=VT} /\FrZ base lo hi w w':=by
 obtain⟨AV,nV,cV,AO,nO,cO,h1,h2⟩:=h.mem;obtain⟨m,hm⟩: ∃m,nV=m+1:=⟨nV-1,by rw[<-h2.v.len,hV];simp⟩
 subst hm;have hne:(((m+1:Nat):Int)==0)=false:=by rw[beq_eq_false_iff_ne];omega
 obtain⟨vb,voff,rfl,hcv⟩:=h2.v.sl.at_ (j:=0) (u:= .int .i64 V0) (by rw[hV];rfl);rw[Nat.add_zero]at hcv;have hcapv:=h2.v.cap;have hsl:=h2.v.sl.from_ hcapv (p:=1) (by omega);have hbk:=qew (A:=some ⟨vb,voff,none⟩) (c:=cV) (p:=1);obtain⟨A2,hA2⟩:=geZ ((if cV=1 then some (⟨vb,voff,none⟩:Addr)else(some (⟨vb,voff,none⟩:Addr)).map (·.add (1*1))));have e1: ∀w,(Instr.sliceAt 22 (.slice (some ⟨vb,voff,none⟩) (m+1) cV) (some (.int .i64 1)) none none).run Tryz.prog w= .ok (.slice A2 m (cV-1)) w:=by
  intro w;have:=cut_from 22 3 Tryz.underlying22 (by kernel_rfl) (by kernel_rfl) (some ⟨vb,voff,none⟩) (m+1) cV 1 (by omega) w;rw[hA2]at this;exact this
 rw[hA2]at hsl hbk;have hlow:low base A2:=fun a' ha'=>by
  obtain⟨a,h3,h4⟩:=hbk a' ha';rw[h4];exact h2.v.low (by omega) a h3
 have hVT:SlI base w A2 m (cV-1) VT:=⟨by have:=h2.v.len;rw[hV]at this;simpa using this,by omega,by rw[hV]at hsl;exact hsl,fun _=>hlow⟩
 have k1:w.cell? ⟨g,1,none⟩=some (.slice (some ⟨vb,voff,none⟩) (m+1) cV):=by rw[h1.cell];rfl
 have z1:=h1.thaw 1;have HVT:=zq hVT;have H:=zq h;have H1:=zq h1;have H2:=zq h2;clear hVT hlow hsl hbk hA2 hV h1 h2 h;go_enter Tryz.func211,Tryz.ntmps211;go_wp2;go_ret
 have hf:=qck (lo:=lo) (hi:=hi) H1.out H.out.gb H.out.gz H.out.sz.1 1 (.slice A2 m (cV-1));have hr:=H2.out.store H1.out H.out.gb H.out.sz.1 1 (.slice A2 m (cV-1));exact⟨rfl,⟨H.out.gb,H.out.gz,⟨Nat.le_trans H.out.sz.1 hf.b.size,Nat.le_trans H.out.sz.2 hf.b.size⟩,H.out.rd,A2,m,cV-1,AO,nO,cO,H1.out.stored 1 _,⟨HVT.out.below hf.b,hr.len,hr.o,hr.oz,hr.wid⟩⟩,hf⟩
end
section
open Go.RowKit
theorem qdm {l:List (Int×Int)}(h: ∀x∈l,0<=x.2/\x.2<=64):0<=qar l/\qar l<=64*l.length:=by
 induction l with
 |nil=>simp[qar]
 |cons x l ih=>
  have h1:=h x (by simp);have h2:=ih (fun y hy=>h y (by simp[hy]));rw[total_cons,List.length_cons];omega
theorem enum_five (base lo hi g:Nat)(id:Int)(s:WS)(w:World)(h:EnAt base lo hi g id w s)(hwd:Wd w)(hout:s.out.length<=1000000):
  Calls Tryz.prog 184 #[.pointer (some ⟨g,0,none⟩),.int .i64 5] w fun e w'=>e= .returned (.int .i64 id)/\EnAt base lo hi g id w' {s with out:=s.out++[(id,(qak 5:Int))]} /\FrZ base lo hi w w':=by
 obtain⟨kw,hkw⟩:=geZ (qak 5);have hkl:kw<=32:=by rw[<-hkw];exact qer _
 have HWA:=zq (fun W (hW:Wd W)=>(show Calls Tryz.prog 212 #[.int .i64 5] W fun e w'=>e= .returned (.int .i64 (kw:Int))/\W=w' from by rw[<-hkw];exact qeq 5 W hW));rw[hkw];clear hkw;have HX:=zq h;have HWX:=zq hwd;have HFX:=zq (FrZ.refl base lo hi w);have HOUT:=zq hout;have q0:w.cell? ⟨g,0,none⟩=some (.int .i64 id):=by obtain⟨AV,nV,cV,AO,nO,cO,hh,_⟩:=h.mem;rw[hh.cell];rfl
 clear h hwd hout;obtain⟨AV,nV,cV,AO,nO,cO,hh,hr⟩:=HX.out.mem;have HC:=zq (HWA.out w HWX.out);have hkm:(0:Int)<=(kw:Int)/\(kw:Int)<=64:=by omega
 have hlo:s.out.length=nO:=hr.len;have htb:0<=qar s.out/\qar s.out<=64*(s.out.length:Int):=qdm hr.wid
 try simp only at hh
 have hno:nO<=1048576:=by have:s.out.length<=1000000:=HOUT.out;omega
 obtain⟨T,hT⟩:=geZ (qar s.out);rw[hT]at hh htb;have hT0:0<=T:=htb.1;have hT1:T<=67108864:=by have:=htb.2;omega
 have q2:w.cell? ⟨g,2,none⟩=some (.slice AO nO cO):=by rw[hh.cell];rfl
 have hbl:Below w.heap.size w (w.alloc (.cells #[.int .i64 id,.int .i64 (kw:Int)] 185)):=bA;have hbsz:=HX.out.sz;have HL:=zq (And.intro (hh.u hbl) (hr.under hbl hbsz.1));have HFL:=zq (qcn (lo:=lo) hbl hbsz.1 hbsz.2);have hO3:=zq (HL.out.2.o);have hN:=zq (show([.int .i64 id,.int .i64 (kw:Int)]:List Value).length=1*2 from rfl);have hC:=qcb w #[.int .i64 id,.int .i64 (kw:Int)] 185 [.int .i64 id,.int .i64 (kw:Int)] rfl;have h1c:Hid (∀u∈([.int .i64 id,.int .i64 (kw:Int)]:List Value),u.oneCell'=true):=by
  intro u hu;simp only[List.mem_cons,List.not_mem_nil,or_false]at hu
  rcases hu with rfl|rfl<;>rfl
 have hBD:Hid (nO+1<=maxLen/\(nO+1)*16<=140737488355328/\base<=(w.alloc (.cells #[.int .i64 id,.int .i64 (kw:Int)] 185)).heap.size):=zq ⟨by unfold maxLen;omega,by omega,Nat.le_trans hbsz.1 hbl.size⟩;have HT:=zq hT;have HKM:=zq hkm;have HHL:=zq (Nat.le_trans hbsz.2 hbl.size);clear hh hr hbl hbsz hT hkm htb hno hlo HWX HWA;go_enter Tryz.func184,Tryz.ntmps184;go_wp2_with fail;refine HC.out.mono ?_;rintro e w' ⟨rfl,rfl⟩;go_wp2_with (with_reducible refine qdq (o:=⟨some 37,_,_,_,_,_⟩) rfl (.tmp 32) (.tmp 36) 106 rfl base 185 (.agg #[.int .i64 0,.int .i64 0]) 2 16 Tryz.underlying106 qcE ?hz (by decide) AO nO cO (pairs s.out) ?hs hO3 ⟨w.heap.size,0,none⟩ 1 1 [.int .i64 id,.int .i64 (kw:Int)] ?hx hN hC h1c hBD ?next)
 all_goals try rfl
 intro A4 c4 w4 ho4 hg4 hb4;obtain⟨hr4,hf4⟩:=HL.out.2.grow hBD.out.2.2 HHL.out id kw HKM.out A4 c4 ho4.out hg4.out (by rw[show(w.alloc (.cells #[.int .i64 id,.int .i64 (kw:Int)] 185)).heap.size=w.heap.size+1 by simp];exact hb4.out);have hh4:Has w4 g 227 _:=HL.out.1.grow hg4.out (fun e=>qa0 HL.out.2.o HL.out.1 (by decide) e.symm);have z2:=hh4.thaw 2;have q22:w4.cell? ⟨g,2,none⟩=some (.slice AO nO cO):=by rw[hh4.cell];rfl
 have hs1':=hh4.stored 2 (.slice A4 (nO+1) c4);have z3:=hs1'.thaw 3;have q3:(w4.setCell ⟨g,2,none⟩ (.slice A4 (nO+1) c4)).cell? ⟨g,3,none⟩=some (.int .i64 T):=by rw[hs1'.cell];rfl
 clear hs1';have hB4:base<=w4.heap.size:=Nat.le_trans hBD.out.2.2 hf4.b.size;have HR4:=zq hr4;have HF4:=zq (HFX.out.trans (HFL.out.trans hf4));have HH4:=zq hh4;have HHI4:=zq (Nat.le_trans HHL.out hf4.b.size);clear hr4 hf4 hh4 ho4 hg4 hb4 HFL HFX HL;go_wp2;go_ret
 have hs1:=HH4.out.stored 2 (.slice A4 (nO+1) c4);have f1:=qck (lo:=lo) (hi:=hi) HH4.out HX.out.gb HX.out.gz hB4 2 (.slice A4 (nO+1) c4);have r1:=HR4.out.store HH4.out HX.out.gb hB4 2 (.slice A4 (nO+1) c4);have hB5:base<=(w4.setCell ⟨g,2,none⟩ (.slice A4 (nO+1) c4)).heap.size:=Nat.le_trans hB4 f1.b.size;have f2:=qck (lo:=lo) (hi:=hi) hs1 HX.out.gb HX.out.gz hB5 3 (.int .i64 (T+kw));have r2:=r1.store hs1 HX.out.gb hB5 3 (.int .i64 (T+kw));have hf:=HF4.out.trans (f1.trans f2);refine⟨rfl,⟨HX.out.gb,HX.out.gz,⟨Nat.le_trans hB5 f2.b.size,Nat.le_trans HHI4.out (f1.trans f2).b.size⟩,HX.out.rd,AV,nV,cV,A4,nO+1,c4,?_,r2⟩,hf⟩;have e1:qar (s.out++[(id,(kw:Int))])=T+kw:=by rw[qdD,HT.out]
 rw[e1];exact hs1.stored 3 _
theorem enum_seven (base lo hi g:Nat)(id:Int)(s:WS)(w:World)(h:EnAt base lo hi g id w s)(hwd:Wd w)(hgb:0<base)(hout:s.out.length<=1000000):
  Calls Tryz.prog 184 #[.pointer (some ⟨g,0,none⟩),.int .i64 7] w fun e w'=>e= .returned (.int .i64 0)/\EnAt base lo hi g id w' {s with place:=s.out.length,out:=s.out++[(0,(qak 7:Int))]} /\FrZ base lo hi w w':=by
 obtain⟨kw,hkw⟩:=geZ (qak 7);have hkl:kw<=32:=by rw[<-hkw];exact qer _
 have HWA:=zq (fun W (hW:Wd W)=>(show Calls Tryz.prog 212 #[.int .i64 7] W fun e w'=>e= .returned (.int .i64 (kw:Int))/\W=w' from by rw[<-hkw];exact qeq 7 W hW));rw[hkw];clear hkw;have hq: ∃(AO:Option Addr) (nO cO:Nat),w.cell? ⟨g,2,none⟩=some (.slice AO nO cO)/\w.cell? ⟨g,4,none⟩=some (.int .i64 s.place)/\w.frozen? ⟨g,4,none⟩=false/\s.out.length=nO/\EnAt base lo hi g id (w.setCell ⟨g,4,none⟩ (.int .i64 nO)) {s with place:=s.out.length} /\FrZ base lo hi w (w.setCell ⟨g,4,none⟩ (.int .i64 nO)):=by
  obtain⟨AV,nV,cV,AO,nO,cO,hh,hr⟩:=h.mem;have f:=qck (lo:=lo) (hi:=hi) hh h.gb h.gz h.sz.1 4 (.int .i64 nO);have r:=hr.store hh h.gb h.sz.1 4 (.int .i64 nO);refine⟨AO,nO,cO,by rw[hh.cell];rfl,by rw[hh.cell];rfl,hh.thaw 4,hr.len,⟨h.gb,h.gz,⟨Nat.le_trans h.sz.1 f.b.size,Nat.le_trans h.sz.2 f.b.size⟩,h.rd,AV,nV,cV,AO,nO,cO,?_,⟨r.v,r.len,r.o,r.oz,r.wid⟩⟩,f⟩;have:=hh.stored 4 (.int .i64 nO);show Has _ g _ #[.int .i64 id,.slice AV nV cV,.slice AO nO cO,.int .i64 (qar s.out),.int .i64 (s.out.length:Int)]
  rw[hr.len];exact this
 obtain⟨AO0,nO0,cO0,p2,p4,z4,hlen0,hx,hfx⟩:=hq;have HX:=zq hx;have HWX:=zq (hwd.frz hgb hfx);have HFX:=zq hfx;have HOUT:=zq hout;have HLN0:=zq hlen0;clear h hwd hout hx hfx hlen0;obtain⟨w1,hw1⟩:=geZ (w.setCell ⟨g,4,none⟩ (.int .i64 nO0));rw[hw1]at HX HWX HFX;obtain⟨AV,nV,cV,AO,nO,cO,hh,hr⟩:=HX.out.mem;have HC:=zq (HWA.out w1 HWX.out);have hkm:(0:Int)<=(kw:Int)/\(kw:Int)<=64:=by omega
 have hlo:s.out.length=nO:=hr.len;have htb:0<=qar s.out/\qar s.out<=64*(s.out.length:Int):=qdm hr.wid
 try simp only at hh
 have hno:nO<=1048576:=by have:s.out.length<=1000000:=HOUT.out;omega
 obtain⟨T,hT⟩:=geZ (qar s.out);rw[hT]at hh htb;have hT0:0<=T:=htb.1;have hT1:T<=67108864:=by have:=htb.2;omega
 have q2:w1.cell? ⟨g,2,none⟩=some (.slice AO nO cO):=by rw[hh.cell];rfl
 have hbl:Below w1.heap.size w1 (w1.alloc (.cells #[.int .i64 0,.int .i64 (kw:Int)] 185)):=bA;have hbsz:=HX.out.sz;have HL:=zq (And.intro (hh.u hbl) (hr.under hbl hbsz.1));have HFL:=zq (qcn (lo:=lo) hbl hbsz.1 hbsz.2);have hO3:=zq (HL.out.2.o);have hN:=zq (show([.int .i64 0,.int .i64 (kw:Int)]:List Value).length=1*2 from rfl);have hC:=qcb w1 #[.int .i64 0,.int .i64 (kw:Int)] 185 [.int .i64 0,.int .i64 (kw:Int)] rfl;have h1c:Hid (∀u∈([.int .i64 0,.int .i64 (kw:Int)]:List Value),u.oneCell'=true):=by
  intro u hu;simp only[List.mem_cons,List.not_mem_nil,or_false]at hu
  rcases hu with rfl|rfl<;>rfl
 have hBD:Hid (nO+1<=maxLen/\(nO+1)*16<=140737488355328/\base<=(w1.alloc (.cells #[.int .i64 0,.int .i64 (kw:Int)] 185)).heap.size):=zq ⟨by unfold maxLen;omega,by omega,Nat.le_trans hbsz.1 hbl.size⟩;have HT:=zq hT;have HKM:=zq hkm;have HHL:=zq (Nat.le_trans hbsz.2 hbl.size);clear hh hr hbl hbsz hT hkm htb hno hlo HWX HWA;have HW1:=zq hw1;clear hw1;go_enter Tryz.func184,Tryz.ntmps184;go_wp2_with fail;rw[HW1.out];refine HC.out.mono ?_;rintro e w' ⟨rfl,rfl⟩;go_wp2_with (with_reducible refine qdq (o:=⟨some 37,_,_,_,_,_⟩) rfl (.tmp 32) (.tmp 36) 106 rfl base 185 (.agg #[.int .i64 0,.int .i64 0]) 2 16 Tryz.underlying106 qcE ?hz (by decide) AO nO cO (pairs s.out) ?hs hO3 ⟨w1.heap.size,0,none⟩ 1 1 [.int .i64 0,.int .i64 (kw:Int)] ?hx hN hC h1c hBD ?next)
 all_goals try rfl
 intro A4 c4 w4 ho4 hg4 hb4;obtain⟨hr4,hf4⟩:=HL.out.2.grow hBD.out.2.2 HHL.out 0 kw HKM.out A4 c4 ho4.out hg4.out (by rw[show(w1.alloc (.cells #[.int .i64 0,.int .i64 (kw:Int)] 185)).heap.size=w1.heap.size+1 by simp];exact hb4.out);have hh4:Has w4 g 227 _:=HL.out.1.grow hg4.out (fun e=>qa0 HL.out.2.o HL.out.1 (by decide) e.symm);have z2:=hh4.thaw 2;have q22:w4.cell? ⟨g,2,none⟩=some (.slice AO nO cO):=by rw[hh4.cell];rfl
 have hs1':=hh4.stored 2 (.slice A4 (nO+1) c4);have z3:=hs1'.thaw 3;have q3:(w4.setCell ⟨g,2,none⟩ (.slice A4 (nO+1) c4)).cell? ⟨g,3,none⟩=some (.int .i64 T):=by rw[hs1'.cell];rfl
 clear hs1';have hB4:base<=w4.heap.size:=Nat.le_trans hBD.out.2.2 hf4.b.size;have HR4:=zq hr4;have HF4:=zq (HFX.out.trans (HFL.out.trans hf4));have HH4:=zq hh4;have HHI4:=zq (Nat.le_trans HHL.out hf4.b.size);clear hr4 hf4 hh4 ho4 hg4 hb4 HFL HFX HL;go_wp2;go_ret
 have hs1:=HH4.out.stored 2 (.slice A4 (nO+1) c4);have f1:=qck (lo:=lo) (hi:=hi) HH4.out HX.out.gb HX.out.gz hB4 2 (.slice A4 (nO+1) c4);have r1:=HR4.out.store HH4.out HX.out.gb hB4 2 (.slice A4 (nO+1) c4);have hB5:base<=(w4.setCell ⟨g,2,none⟩ (.slice A4 (nO+1) c4)).heap.size:=Nat.le_trans hB4 f1.b.size;have f2:=qck (lo:=lo) (hi:=hi) hs1 HX.out.gb HX.out.gz hB5 3 (.int .i64 (T+kw));have r2:=r1.store hs1 HX.out.gb hB5 3 (.int .i64 (T+kw));have hf:=HF4.out.trans (f1.trans f2);refine⟨rfl,⟨HX.out.gb,HX.out.gz,⟨Nat.le_trans hB5 f2.b.size,Nat.le_trans HHI4.out (f1.trans f2).b.size⟩,HX.out.rd,AV,nV,cV,A4,nO+1,c4,?_,r2⟩,hf⟩;have e1:qar (s.out++[(0,(kw:Int))])=T+kw:=by rw[qdD,HT.out]
 rw[e1];exact hs1.stored 3 _
theorem enum_other (base lo hi g:Nat)(id:Int)(v:Nat)(h5:v≠5)(h7:v≠7)(s:WS)(V0:Int)(VT:List Int)(hV:s.V=V0::VT)(w:World)(h:EnAt base lo hi g id w s)(hwd:Wd w)(hgb:0<base)(hout:s.out.length<=1000000):
  Calls Tryz.prog 184 #[.pointer (some ⟨g,0,none⟩),.int .i64 (v:Int)] w fun e w'=>e= .returned (.int .i64 V0)/\EnAt base lo hi g id w' {s with V:=VT,out:=s.out++[(V0,(qak v:Int))]} /\FrZ base lo hi w w':=by
 obtain⟨kw,hkw⟩:=geZ (qak v);have hkl:kw<=32:=by rw[<-hkw];exact qer _
 have HWA:=zq (fun W (hW:Wd W)=>(show Calls Tryz.prog 212 #[.int .i64 v] W fun e w'=>e= .returned (.int .i64 (kw:Int))/\W=w' from by rw[<-hkw];exact qeq v W hW));rw[hkw];clear hkw;have HN:=zq (next_some base lo hi g id s V0 VT w h hV);have HOUT:=zq hout;have HWD:=zq hwd;have e5:((v:Int)==5)=false:=by rw[beq_eq_false_iff_ne];omega
 have e7:((v:Int)==7)=false:=by rw[beq_eq_false_iff_ne];omega
 clear h hwd hout;go_enter Tryz.func184,Tryz.ntmps184;go_wp2_with fail;refine HN.out.mono ?_;rintro e w1 ⟨rfl,hx,hfx⟩;have HX:=zq hx;have HFX:=zq hfx;have HWX:=zq (HWD.out.frz hgb hfx);clear hx hfx HN HWD;obtain⟨AV,nV,cV,AO,nO,cO,hh,hr⟩:=HX.out.mem;have HC:=zq (HWA.out w1 HWX.out);have hkm:(0:Int)<=(kw:Int)/\(kw:Int)<=64:=by omega
 have hlo:s.out.length=nO:=hr.len;have htb:0<=qar s.out/\qar s.out<=64*(s.out.length:Int):=qdm hr.wid
 try simp only at hh
 have hno:nO<=1048576:=by have:s.out.length<=1000000:=HOUT.out;omega
 obtain⟨T,hT⟩:=geZ (qar s.out);rw[hT]at hh htb;have hT0:0<=T:=htb.1;have hT1:T<=67108864:=by have:=htb.2;omega
 have q2:w1.cell? ⟨g,2,none⟩=some (.slice AO nO cO):=by rw[hh.cell];rfl
 have hbl:Below w1.heap.size w1 (w1.alloc (.cells #[.int .i64 V0,.int .i64 (kw:Int)] 185)):=bA;have hbsz:=HX.out.sz;have HL:=zq (And.intro (hh.u hbl) (hr.under hbl hbsz.1));have HFL:=zq (qcn (lo:=lo) hbl hbsz.1 hbsz.2);have hO3:=zq (HL.out.2.o);have hN:=zq (show([.int .i64 V0,.int .i64 (kw:Int)]:List Value).length=1*2 from rfl);have hC:=qcb w1 #[.int .i64 V0,.int .i64 (kw:Int)] 185 [.int .i64 V0,.int .i64 (kw:Int)] rfl;have h1c:Hid (∀u∈([.int .i64 V0,.int .i64 (kw:Int)]:List Value),u.oneCell'=true):=by
  intro u hu;simp only[List.mem_cons,List.not_mem_nil,or_false]at hu
  rcases hu with rfl|rfl<;>rfl
 have hBD:Hid (nO+1<=maxLen/\(nO+1)*16<=140737488355328/\base<=(w1.alloc (.cells #[.int .i64 V0,.int .i64 (kw:Int)] 185)).heap.size):=zq ⟨by unfold maxLen;omega,by omega,Nat.le_trans hbsz.1 hbl.size⟩;have HT:=zq hT;have HKM:=zq hkm;have HHL:=zq (Nat.le_trans hbsz.2 hbl.size);clear hh hr hbl hbsz hT hkm htb hno hlo HWX HWA;go_wp2_with fail;refine HC.out.mono ?_;rintro e w' ⟨rfl,rfl⟩;go_wp2_with (with_reducible refine qdq (o:=⟨some 37,_,_,_,_,_⟩) rfl (.tmp 32) (.tmp 36) 106 rfl base 185 (.agg #[.int .i64 0,.int .i64 0]) 2 16 Tryz.underlying106 qcE ?hz (by decide) AO nO cO (pairs s.out) ?hs hO3 ⟨w1.heap.size,0,none⟩ 1 1 [.int .i64 V0,.int .i64 (kw:Int)] ?hx hN hC h1c hBD ?next)
 all_goals try rfl
 intro A4 c4 w4 ho4 hg4 hb4;obtain⟨hr4,hf4⟩:=HL.out.2.grow hBD.out.2.2 HHL.out V0 kw HKM.out A4 c4 ho4.out hg4.out (by rw[show(w1.alloc (.cells #[.int .i64 V0,.int .i64 (kw:Int)] 185)).heap.size=w1.heap.size+1 by simp];exact hb4.out);have hh4:Has w4 g 227 _:=HL.out.1.grow hg4.out (fun e=>qa0 HL.out.2.o HL.out.1 (by decide) e.symm);have z2:=hh4.thaw 2;have q22:w4.cell? ⟨g,2,none⟩=some (.slice AO nO cO):=by rw[hh4.cell];rfl
 have hs1':=hh4.stored 2 (.slice A4 (nO+1) c4);have z3:=hs1'.thaw 3;have q3:(w4.setCell ⟨g,2,none⟩ (.slice A4 (nO+1) c4)).cell? ⟨g,3,none⟩=some (.int .i64 T):=by rw[hs1'.cell];rfl
 clear hs1';have hB4:base<=w4.heap.size:=Nat.le_trans hBD.out.2.2 hf4.b.size;have HR4:=zq hr4;have HF4:=zq (HFX.out.trans (HFL.out.trans hf4));have HH4:=zq hh4;have HHI4:=zq (Nat.le_trans HHL.out hf4.b.size);clear hr4 hf4 hh4 ho4 hg4 hb4 HFL HFX HL;go_wp2;go_ret
 have hs1:=HH4.out.stored 2 (.slice A4 (nO+1) c4);have f1:=qck (lo:=lo) (hi:=hi) HH4.out HX.out.gb HX.out.gz hB4 2 (.slice A4 (nO+1) c4);have r1:=HR4.out.store HH4.out HX.out.gb hB4 2 (.slice A4 (nO+1) c4);have hB5:base<=(w4.setCell ⟨g,2,none⟩ (.slice A4 (nO+1) c4)).heap.size:=Nat.le_trans hB4 f1.b.size;have f2:=qck (lo:=lo) (hi:=hi) hs1 HX.out.gb HX.out.gz hB5 3 (.int .i64 (T+kw));have r2:=r1.store hs1 HX.out.gb hB5 3 (.int .i64 (T+kw));have hf:=HF4.out.trans (f1.trans f2);refine⟨rfl,⟨HX.out.gb,HX.out.gz,⟨Nat.le_trans hB5 f2.b.size,Nat.le_trans HHI4.out (f1.trans f2).b.size⟩,HX.out.rd,AV,nV,cV,A4,nO+1,c4,?_,r2⟩,hf⟩;have e1:qar (s.out++[(V0,(kw:Int))])=T+kw:=by rw[qdD,HT.out]
 rw[e1];exact hs1.stored 3 _
theorem enum_none (base lo hi g:Nat)(id:Int)(v:Nat)(h5:v≠5)(h7:v≠7)(s:WS)(hV:s.V=[])(w:World)(h:EnAt base lo hi g id w s):
  Calls Tryz.prog 184 #[.pointer (some ⟨g,0,none⟩),.int .i64 (v:Int)] w fun e w'=>e=panE 20/\FrZ base lo hi w w':=by
 have HN:=zq (next_nil base lo hi g id s w h hV);have e5:((v:Int)==5)=false:=by rw[beq_eq_false_iff_ne];omega
 have e7:((v:Int)==7)=false:=by rw[beq_eq_false_iff_ne];omega
 clear h;unfold panE at*;go_enter Tryz.func184,Tryz.ntmps184;go_wp2_with fail;refine HN.out.mono ?_;rintro e w1 ⟨rfl,rfl⟩;go_wp2;exact⟨rfl,rfl,FrZ.refl _ _ _ _⟩
end
section
open Go.RowKit
theorem EnAt.same {base lo hi g:Nat}{id:Int}{w:World}{s s':WS}(h:EnAt base lo hi g id w s)(h1:s'.V=s.V)(h2:s'.out=s.out)(h3:s'.place=s.place)(h4:s'.rd=s.rd):EnAt base lo hi g id w s':=by
 obtain⟨AV,nV,cV,AO,nO,cO,a,b⟩:=h.mem;refine⟨h.gb,h.gz,h.sz,by rw[h4];exact h.rd,AV,nV,cV,AO,nO,cO,?_,⟨by rw[h1];exact b.v,by rw[h2];exact b.len,by rw[h2];exact b.o,b.oz,by rw[h2];exact b.wid⟩⟩;have e:enCells id s' (qar s'.out) AV nV cV AO nO cO=enCells id s (qar s.out) AV nV cV AO nO cO:=by
  unfold enCells;rw[h2,h3]
 rw[e];exact a
theorem enc_numc (base lo hi g:Nat)(id:Int)(hgb:0<base):NumC (EnAt base lo hi g id) 184 g base lo hi:=by
 refine⟨enters_of Tryz.func184 (by kernel_rfl) rfl,hgb,fun w s h=>h.sz,fun w w' s h hb=>h.under hb,?_,?_⟩
 ·intro v s w k hv h5 h he hinv hwd hf
  have ho:s.out.length<=1000000:=by have:=hinv.o;omega
  by_cases h7:v=7
  ·subst h7
   have hfe:fetch (7:Nat) s=(0,s):=by rw[fetch,h.rd,if_neg (by decide),if_pos (by rfl)]
   rw[hfe];exact(enum_seven base lo hi g id s w h hwd hgb ho).mono fun e w' ⟨a,b,c⟩=>⟨a,b,c⟩
  ·have k7: ¬((v:Int)=7):=by omega
   have k5: ¬((v:Int)=5):=by omega
   have hfe:fetch v s=if s.V=[]then(0, {s with e:=20})else(s.V.headD 0, {s with V:=s.V.tail}):=by rw[fetch,h.rd,if_neg (by decide),if_neg k7]
   cases hV:s.V with
   |nil=>rw[hfe,if_pos hV]at hf;exact absurd hf (by show¬((20:Int)=0);decide)
   |cons V0 VT=>
    rw[hfe,if_neg (by rw[hV];simp),hV];refine(enum_other base lo hi g id v h5 h7 s V0 VT hV w h hwd hgb ho).mono fun e w' ⟨a,b,c⟩=>⟨a,b.same ?_ ?_ ?_ ?_,c⟩
    all_goals (rw[keep,if_neg k7,if_neg k5]<;>rfl)
 ·intro v s w k hv h5 h he hinv hwd hf
  by_cases h7:v=7
  ·subst h7
   have hfe:fetch (7:Nat) s=(0,s):=by rw[fetch,h.rd,if_neg (by decide),if_pos (by rfl)]
   rw[hfe]at hf;exact absurd he hf
  ·have k7: ¬((v:Int)=7):=by omega
   have hfe:fetch v s=if s.V=[]then(0, {s with e:=20})else(s.V.headD 0, {s with V:=s.V.tail}):=by rw[fetch,h.rd,if_neg (by decide),if_neg k7]
   by_cases hV:s.V=[]
   ·rw[hfe,if_pos hV]
    exact enum_none base lo hi g id v h5 h7 s hV w h
   ·rw[hfe,if_neg hV]at hf
    exact absurd he hf
/-! Which blocks are an encoder's is known: those that are made behind it are none. -/
theorem EnAt.zone {base lo hi g:Nat}{id:Int}{w w':World}{s:WS}(h:EnAt base lo hi g id w s)(hb:Below w.heap.size w w'):EnAt base w.heap.size w'.heap.size g id w' s:=by
 obtain⟨AV,nV,cV,AO,nO,cO,a,b⟩:=h.mem;refine⟨h.gb,.inl a.lt,⟨Nat.le_trans h.sz.1 hb.size,Nat.le_refl _⟩,h.rd,AV,nV,cV,AO,nO,cO,a.u hb,?_⟩;have r:=b.under hb h.sz.1;exact⟨r.v,r.len,r.o,fun k hk=> .inl (b.o.lt k hk).2,r.wid⟩
theorem no5_ast {id:Int}(h:qbA id=true):no5L (astOf id)=true/\szL (astOf id)<=900:=by
 rcases qdM h with rfl|rfl|rfl|rfl|rfl|rfl|rfl|rfl|rfl|rfl|rfl|rfl
 all_goals exact⟨by kernel_rfl,of_decide_eq_true (by kernel_rfl)⟩
def qgy (base g:Nat)(id:Int)(R:WS)(w:World)(e:Ending)(w':World):Prop:=
 ((qbA id=false/\e=panE 50)\/(qbA id=true/\((R.e=0/\e= .returned (.int .i64 id)/\ ∃lo hi,EnAt base lo hi g id w' R)\/(R.e≠0/\e=panE R.e))))/\Below base w w'
theorem packet_enc (base g:Nat)(id:Int)(V:List Int)(w:World)(h:EnAt base 0 0 g id w ⟨V,false,[],[],[],0,0⟩)(hwd:Wd w)(hgb:0<base)(hV:V.length<=500000):
  Calls Tryz.prog 185 #[.agg #[.func (.func 184) #[.pointer (some ⟨g,0,none⟩)] #[]]] w (qgy base g id (runL (astOf id) 0 (qbc id V)) w):=by
 obtain⟨R,hR⟩:=geZ (runL (astOf id) 0 (qbc id V));rw[hR];have HRR:=zq hR;clear hR;have hb0:Below w.heap.size w (w.alloc (.cells #[.func (.func 184) #[.pointer (some ⟨g,0,none⟩)] #[]] 229)):=bA;have hbx:Has (w.alloc (.cells #[.func (.func 184) #[.pointer (some ⟨g,0,none⟩)] #[]] 229)) w.heap.size 229 #[.func (.func 184) #[.pointer (some ⟨g,0,none⟩)] #[]]:=Has.made _ _ _;have HF0:=zq (qcn (lo:=0) (hi:=0) hb0 h.sz.1 (Nat.zero_le _));have hc5:=enum_five base 0 0 g id _ _ (h.under hb0) (hwd.under hb0) (by simp);rw[w5]at hc5;have HC5:=zq hc5;have HBX:=zq hbx;have HWD:=zq (hwd.under hb0);clear hc5 hb0 hbx h hwd;go_enter Tryz.func185,Tryz.ntmps185;go_wp2_with fail;refine HC5.out.mono ?_;rintro e w1 ⟨rfl,he1,hf1⟩;have HE1:Hid (EnAt base 0 0 g id w1 (qbc id V)):=zq he1;have HF1:=zq (HF0.out.trans hf1);have HBX1:=zq (HBX.out.frz (.inl rfl) hf1);have HWD1:=zq (HWD.out.frz hgb hf1);clear he1 hf1 HC5 HF0 HBX HWD
 cases hk:qbA id
 ·have HL:=zq (layout_no id hk w1)
  have HK:=zq hk;have hnil: ∀w,(binOp .eql 252 (.slice none 0 0) (.slice none 0 0)).run Tryz.prog w= .ok (.bool true) w:=fun w=>Lib.run_eql_slice_nil w _ _ none 0 0 0 0 Tryz.underlying252;clear hk;go_wp2_with fail;refine HL.out.mono ?_;rintro e w2 ⟨rfl,rfl⟩;go_wp2;exact⟨rfl,.inl ⟨HK.out,rfl⟩,HF1.out.b⟩
 ·have HL:=zq (layout_yes w1.heap.size id hk w1 (Nat.le_refl _))
  have HK:=zq hk;clear hk;go_wp2_with fail;refine HL.out.mono ?_;rintro e w2 ⟨A2,n2,c2,l,rfl,hp,hnd,hb⟩;obtain⟨pre,a,post,sh⟩:=qel HK.out;have hast:=no5_ast HK.out;have hn0:0<n2:=by
   rw[<-hp.len]
   cases l with
   |nil=>have:=sh.seven;rw[<-hnd]at this;simp[ndPts,c7]at this
   |cons x l=>simp
  obtain⟨ad,rfl⟩:=hp.addr hn0;have hE2:=HE1.out.zone hb;have hnil: ∀w,(binOp .eql 252 (.slice (some ad) n2 c2) (.slice none 0 0)).run Tryz.prog w= .ok (.bool false) w:=fun w=>Lib.run_eql_slice_nil w _ _ (some ad) n2 c2 0 0 Tryz.underlying252;have hsz:=szPts_le l;rw[hnd]at hsz;have hth:=through_any (enc_numc base w1.heap.size w2.heap.size g id hgb) 1000 (Nat.le_refl _) l (by omega) (by rw[hnd];exact sh.good) (by rw[hnd];exact hast.1) (qbc id V) w2 (some ad) n2 c2 0 hE2 rfl (by rw[hnd,sh.seven];exact qd5 hV) (HWD1.out.under hb) hp;rw[hnd]at hth;have HTH:=zq hth;have HF2:=zq (HF1.out.trans (qcn hb HE1.out.sz.1 (Nat.zero_le _)));have HBX2:=uH HBX1 hb;have k0:w2.cell? ⟨w.heap.size,0,none⟩=some (.func (.func 184) #[.pointer (some ⟨g,0,none⟩)] #[]):=by rw[HBX2.out.cell];rfl
  clear hth hE2 hsz hast sh hp hnd hb hn0 HL HBX1 HWD1 HF1 HE1;rw[HRR.out]at HTH;by_cases h0:R.e=0
  ·have HC:=zq (HTH.out.mono fun e w' h=>h.fine h0)
   have H0:=zq h0;clear h0 HTH;go_wp2_with fail;refine HC.out.mono ?_;rintro e w3 ⟨rfl,hst,hf3⟩;have HS:=zq hst;have HB:=zq (HF2.out.b.trans hf3.b);clear hst hf3 HC k0;go_wp2;go_ret
   exact⟨.inr ⟨HK.out,.inl ⟨H0.out,rfl,_,_,HS.out⟩⟩,HB.out⟩
  ·have HC:=zq (HTH.out.mono fun e w' h=>h.bad h0)
   have H0:=zq h0;clear h0 HTH;unfold panE at HC;go_wp2_with fail;refine HC.out.mono ?_;rintro e w3 ⟨rfl,hf3⟩;have HB:=zq (HF2.out.b.trans hf3.b);clear hf3 HC k0;go_wp2;exact⟨rfl,.inr ⟨HK.out,.inr ⟨H0.out,rfl⟩⟩,HB.out⟩
end
end Go.Proofs.YtahadmeilajdgaaGreatDoor
