/-
  Our own text, joined.
-/
import Derived.Test.YtahadmeilajdgaaGreatDoorMrau
import Derived.Test.YtahadmeilajdgaaGreatDoorMraa
import Derived.Test.YtahadmeilajdgaaGreatDoorMrac
import Derived.BigQuiet
import Derived.IntWalk
namespace Go.Proofs.YtahadmeilajdgaaGreatDoor
set_option maxRecDepth 100000
set_option maxHeartbeats 8000000
section
open Go.RowKit
open BitsM
def adv (s:WS)(D:List (Int×Int))(R:List Int):WS:= {s with V:=R,out:=s.out++D,got:=s.got++D.map Prod.fst}
def advB (s:WS)(D:List (Int×Int))(R:List Bool):WS:= {s with bits:=R,out:=s.out++D,got:=s.got++D.map Prod.fst}
structure Pk (f:WS->Int×WS) (last:Int) (D:List (Int×Int)):Prop where
 fit: ∀x∈D,FitP x
 items: ∀s R,s.rd=false->s.e=0->s.V=D.map Prod.fst++R->f s=(last,adv s D R)
 get: ∀s R,s.rd=true->s.e=0->s.bits=qaz D++R->f s=(last,advB s D R)
 cut: ∀s,s.rd=true->s.e=0->s.bits.length<(qaz D).length->s.bits=(qaz D).take s.bits.length->(f s).2.e=10
theorem qbD (a b:List (Int×Int)):qaz (a++b)=qaz a++qaz b:=by simp[qaz]
theorem qd7 (x:Int×Int):qaz [x]=wbits x.1.toNat x.2.toNat x.2.toNat:=by simp[qaz]
theorem may_fit (v:Nat)(hv:v<96)(n:Int)(h:mayOf v n=true):0<=n/\n<2^qak v:=by
 have h1:=List.all_eq_true.1 (show(List.range 96).all (fun v=>decide (qbn (v:Int)<2^qak (v:Int)) &&decide (qa8 (v:Int)<2^qak (v:Int)))=true from by kernel_rfl) v (List.mem_range.2 hv);simp only[Bool.and_eq_true,decide_eq_true_eq]at h1;unfold mayOf at h;simp only[Bool.and_eq_true,Bool.or_eq_true,decide_eq_true_eq]at h;omega
theorem fit_may (v:Nat)(hv:v<96)(n:Int)(h:mayOf v n=true):FitP (n,(qak v:Int)):=by
 have h1:=may_fit v hv n h;have h2:=qfN v (by omega) (by omega);have h3:(2:Int)^qak v<=2^32:=by
  have:(2:Nat)^qak v<=2^32:=Nat.pow_le_pow_right (by omega) h2.2
  exact_mod_cast this
 exact⟨h1.1,by omega,by simp only;omega,by simp only;omega⟩
theorem pk_v (v:Nat)(hv:v<96)(h5:v≠5)(h7:v≠7)(n:Int)(h:mayOf v n=true):Pk (fun s=>oneS v s) n [(n,(qak v:Int))]:=by
 have hf:=may_fit v hv n h;have hl:qaz [(n,(qak v:Int))]=wbits n.toNat (qak v) (qak v):=by rw[qd7];simp
 have hlen:(qaz [(n,(qak v:Int))]).length=qak v:=by rw[hl,qaH]
 have hnum:(num (wbits n.toNat (qak v) (qak v)):Int)=n:=by
  rw[num_wbits _ _ (by
   have e:((n.toNat:Nat):Int)<((2^qak v:Nat):Int):=by rw[Int.toNat_of_nonneg hf.1];exact_mod_cast hf.2
   exact_mod_cast e)]
  exact Int.toNat_of_nonneg hf.1
 have k5: ¬((v:Int)=5):=by omega
 have k7: ¬((v:Int)=7):=by omega
 have hkeep: ∀s,keep v n s= {s with got:=s.got++[n],out:=s.out++[(n,(qak v:Int))]} :=fun s=>by rw[keep,if_neg k7,if_neg k5]
 refine⟨?_,?_,?_,?_⟩
 ·intro x hx
  simp only[List.mem_singleton]at hx;subst hx;exact fit_may v hv n h
 ·intro s R hrd he hV
  have hV':s.V=n::R:=by simpa using hV
  have hfe:fetch v s=(n, {s with V:=R}):=by
   rw[fetch,hrd,if_neg (by decide),if_neg k7,hV',if_neg (by simp)];rfl
  show oneS v s=_
  rw[oneS,if_neg (by omega),hfe,if_neg (by simp only;omega),if_neg (by simp only[h];decide),hkeep]
  rfl
 ·intro s R hrd he hb
  rw[hl]at hb;have hfe:fetch v s=(n, {s with bits:=R}):=by
   have e1:s.bits.take (qak v)=wbits n.toNat (qak v) (qak v):=by rw[hb];exact List.take_left' (qaH _ _ _)
   have e2:s.bits.drop (qak v)=R:=by rw[hb];exact List.drop_left' (qaH _ _ _)
   rw[fetch,hrd,if_pos rfl,if_neg (by rw[hb,List.length_append,qaH];omega),e1,e2,hnum]
  show oneS v s=_
  rw[oneS,if_neg (by omega),hfe,if_neg (by simp only;omega),if_neg (by simp only[h];decide),hkeep]
  rfl
 ·intro s hrd he hlt _
  rw[hlen]at hlt;have hfe:fetch v s=(0, {s with e:=10}):=by rw[fetch,hrd,if_pos rfl,if_pos hlt]
  show(oneS v s).2.e=10
  rw[oneS,if_neg (by omega),hfe,if_pos (by simp only;omega)]
theorem pk_nil (last:Int):Pk (fun s=>(last,s)) last []:=by
 refine⟨fun x h=>(by cases h),?_,?_,?_⟩
 ·intro s R _ _ hV
  have e:s.V=R:=by simpa using hV
  rw[adv,<-e];simp
 ·intro s R _ _ hb
  have e:s.bits=R:=by simpa[qaz]using hb
  rw[advB,<-e];simp
 ·intro s _ _ h _
  simp[qaz]at h
theorem pk_then {f g:WS->Int×WS}{l1 l2:Int}{D1 D2:List (Int×Int)}(h:WS->Int×WS)(hh: ∀s,s.e=0->(f s).1=l1->h s=g (f s).2)(hc: ∀s,s.e=0->(f s).2.e≠0->(h s).2=(f s).2)(p1:Pk f l1 D1)(p2:Pk g l2 D2):Pk h l2 (D1++D2):=by
 refine⟨?_,?_,?_,?_⟩
 ·intro x hx
  rw[List.mem_append]at hx;exact hx.elim (p1.fit x) (p2.fit x)
 ·intro s R hrd he hV
  rw[List.map_append,List.append_assoc]at hV;have e1:=p1.items s _ hrd he hV;rw[hh s he (by rw[e1]),e1];show g (adv s D1 (D2.map Prod.fst++R))=_
  rw[p2.items (adv s D1 (D2.map Prod.fst++R)) R hrd he rfl];simp[adv,List.append_assoc]
 ·intro s R hrd he hb
  rw[qbD,List.append_assoc]at hb;have e1:=p1.get s _ hrd he hb;rw[hh s he (by rw[e1]),e1];show g (advB s D1 (qaz D2++R))=_
  rw[p2.get (advB s D1 (qaz D2++R)) R hrd he rfl];simp[advB,List.append_assoc]
 ·intro s hrd he hlt hb
  rw[qbD]at hlt hb;rw[List.length_append]at hlt;by_cases h1:s.bits.length<(qaz D1).length
  ·have hb1:s.bits=(qaz D1).take s.bits.length:=by
    rw[List.take_append_of_le_length (by omega)]at hb;exact hb
   have he1:=p1.cut s hrd he h1 hb1;rw[hc s he (by rw[he1];decide)];exact he1
  ·have hb1:s.bits=qaz D1++(qaz D2).take (s.bits.length-(qaz D1).length):=by
    rw[List.take_append,List.take_of_length_le (by omega)]at hb;exact hb
   have hl:((qaz D2).take (s.bits.length-(qaz D1).length)).length=s.bits.length-(qaz D1).length:=by
    rw[List.length_take];omega
   have e1:=p1.get s _ hrd he hb1;rw[hh s he (by rw[e1]),e1];exact p2.cut (advB s D1 _) hrd he (by show((qaz D2).take _).length<_;rw[hl];omega) (by
    show(qaz D2).take _=(qaz D2).take ((qaz D2).take _).length
    rw[hl])
theorem qcu (b:List Nd)(last:Int){s:WS}(h:s.e≠0):runL b last s=s:=by
 cases b with
 |nil=>rfl
 |cons x l=>rw[runL,if_pos h]
theorem qe7 (f:WS->WS)(m:Nat){s:WS}(h:s.e≠0):repS f m s=s:=by
 cases m with
 |zero=>rfl
 |succ m=>rw[repS,if_pos h]
mutual
def plainN:Nd->Bool
 | .v n=>decide (n<96) &&decide (n≠5) &&decide (n≠7)
 | .g _ b=>qgk b
def qgk:List Nd->Bool
 |[]=>true
 |x::l=>plainN x &&qgk l
end
def Took (s:WS)(D:List (Int×Int)):Prop:=(s.rd=false-> ∃R,s.V=D.map Prod.fst++R)/\(s.rd=true-> ∃R,s.bits=qaz D++R)
theorem took_then {f:WS->Int×WS}{l:Int}{s:WS}{D1 D2:List (Int×Int)}(p:Pk f l D1)(he:s.e=0)(h1:Took s D1)(h2:Took (f s).2 D2):Took s (D1++D2):=by
 constructor
 ·intro hrd
  obtain⟨R,hR⟩:=h1.1 hrd;have e:=p.items s R hrd he hR;rw[e]at h2;obtain⟨R2,hR2⟩:=h2.1 hrd;exact⟨R2,by rw[hR,show R=_ from hR2,List.map_append,List.append_assoc]⟩
 ·intro hrd
  obtain⟨R,hR⟩:=h1.2 hrd;have e:=p.get s R hrd he hR;rw[e]at h2;obtain⟨R2,hR2⟩:=h2.2 hrd;exact⟨R2,by rw[hR,show R=_ from hR2,qbD,List.append_assoc]⟩
theorem took_nil (s:WS):Took s []:=⟨fun _=>⟨s.V,rfl⟩,fun _=>⟨s.bits,rfl⟩⟩
theorem took_e {f:WS->Int×WS}{l:Int}{s:WS}{D:List (Int×Int)}(p:Pk f l D)(he:s.e=0)(h:Took s D):(f s).2.e=0/\(f s).1=l:=by
 cases hrd:s.rd
 ·obtain⟨R,hR⟩:=h.1 hrd
  rw[p.items s R hrd he hR];exact⟨he,rfl⟩
 ·obtain⟨R,hR⟩:=h.2 hrd
  rw[p.get s R hrd he hR];exact⟨he,rfl⟩
theorem one_took (v:Nat)(_hv:v<96)(_h5:v≠5)(h7:v≠7)(s:WS)(he:s.e=0)(h:(oneS v s).2.e=0): ∃n,mayOf v n=true/\(oneS v s).1=n/\Took s [(n,(qak v:Int))]:=by
 have k7: ¬((v:Int)=7):=by omega
 rw[oneS,if_neg (by omega)]at h⊢;by_cases hf:(fetch v s).2.e≠0
 ·rw[if_pos hf]at h;exact absurd h hf
 ·rw[if_neg hf]at h⊢
  by_cases hm:mayOf v (fetch v s).1=false
  ·rw[if_pos hm]at h;exact absurd (show(20:Int)=0 from h) (by decide)
  ·rw[if_neg hm]at h⊢
   have hm':mayOf v (fetch v s).1=true:=by simpa using hm
   refine⟨_,hm',rfl,?_,?_⟩
   ·intro hrd
    have e0:fetch v s=if s.V=[]then(0, {s with e:=20})else(s.V.headD 0, {s with V:=s.V.tail}):=by rw[fetch,hrd,if_neg (by decide),if_neg k7]
    rw[e0]at hf⊢;by_cases hV:s.V=[]
    ·rw[if_pos hV]at hf;exact absurd (show(20:Int)≠0 by decide) hf
    ·rw[if_neg hV]
     cases hc:s.V with
     |nil=>exact absurd hc hV
     |cons a r=>exact⟨r,rfl⟩
   ·intro hrd
    have e0:fetch v s=if s.bits.length<qak v then(0, {s with e:=10})else(((num (s.bits.take (qak v)):Nat):Int), {s with bits:=s.bits.drop (qak v)}):=by rw[fetch,hrd,if_pos rfl]
    rw[e0]at hf⊢;by_cases hb:s.bits.length<qak v
    ·rw[if_pos hb]at hf;exact absurd (show(10:Int)≠0 by decide) hf
    ·rw[if_neg hb]
     refine⟨s.bits.drop (qak v),?_⟩;rw[qd7];simp only[Int.toNat_natCast];have hlen:(s.bits.take (qak v)).length=qak v:=by rw[List.length_take];omega
     have hw:wbits (num (s.bits.take (qak v))) (qak v) (qak v)=s.bits.take (qak v):=by
      apply List.ext_getElem (by rw[qaH,hlen])
      intro i h1 h2;have g1:=qeJ (num (s.bits.take (qak v))) (qak v) (qak v) i (by rw[qaH]at h1;exact h1);have hi:i<qak v:=by rw[qaH]at h1;exact h1
      rw[qdP,hlen,decide_eq_true (by omega),Bool.true_and,show qak v-1-(qak v-1-i)=i by omega]at g1
      simpa[List.getD_eq_getElem?_getD,List.getElem?_eq_getElem h1,List.getElem?_eq_getElem h2]using g1
     rw[hw,List.take_append_drop]
theorem rep_took (b:List Nd)(hL: ∀(last:Int) (s:WS),s.e=0->(runL b last s).e=0-> ∃D,Pk (fun s=>(0,runL b last s)) 0 D/\Took s D):
  ∀(m:Nat) (s:WS),s.e=0->(repS (fun s=>runL b 0 s) m s).e=0-> ∃D,Pk (fun s=>(0,repS (fun s=>runL b 0 s) m s)) 0 D/\Took s D
 |0,s,_,_=>⟨[],pk_nil 0,took_nil s⟩
 |m+1,s,he,h=>by
  rw[repS,if_neg (by omega)]at h;have h1:(runL b 0 s).e=0:=by
   by_cases k:(runL b 0 s).e=0
   ·exact k
   ·rw[qe7 _ _ k]at h;exact h
  obtain⟨D1,p1,t1⟩:=hL 0 s he h1;obtain⟨D2,p2,t2⟩:=rep_took b hL m _ h1 h;exact⟨D1++D2,pk_then (f:=fun s=>(0,runL b 0 s)) (g:=fun s=>(0,repS (fun s=>runL b 0 s) m s)) _ (fun s hs _=>by rw[repS,if_neg (by omega)]) (fun s hs h2=>by show repS _ (m+1) s=_;rw[repS,if_neg (by omega)];exact qe7 _ _ h2) p1 p2,took_then p1 he t1 t2⟩
theorem qe8: ∀(N:Nat) (b:List Nd),szL b<N->qgk b=true-> ∀(last:Int) (s:WS),s.e=0->(runL b last s).e=0-> ∃D,Pk (fun s=>(0,runL b last s)) 0 D/\Took s D
 |0,_,h,_,_,_,_,_=>by omega
 |N+1,[],_,_,last,s,_,_=>⟨[],pk_nil 0,took_nil s⟩
 |N+1,x::l,hN,hp,last,s,he,h=>by
  rw[qgk,Bool.and_eq_true]at hp;rw[runL,if_neg (by omega)]at h;have h1:(runN x last s).2.e=0:=by
   by_cases k:(runN x last s).2.e=0
   ·exact k
   ·rw[qcu _ _ k]at h;exact h
  have hx: ∃l1 D1,Pk (fun s=>runN x last s) l1 D1/\Took s D1:=by
   cases x with
   |v n=>
    have hq:=hp.1;rw[plainN,Bool.and_eq_true,Bool.and_eq_true,decide_eq_true_eq,decide_eq_true_eq,decide_eq_true_eq]at hq;obtain⟨k,hm,_,ht⟩:=one_took n hq.1.1 hq.1.2 hq.2 s he h1;exact⟨k,_,pk_v n hq.1.1 hq.1.2 hq.2 k hm,ht⟩
   |g k b=>
    obtain⟨D,pd,td⟩:=rep_took b (fun last s he h=>qe8 N b (by have:szL (Nd.g k b::l)=szL b+1+szL l\/True:= .inr trivial;simp only[szL,szN]at hN;omega) hp.1 last s he h) (many k last) s he h1;refine⟨last,D,⟨pd.fit,?_,?_,?_⟩,td⟩
    ·intro s R a1 a2 a3
     have:=pd.items s R a1 a2 a3;simp only[Prod.mk.injEq]at this;show(last,repS _ _ _)=_
     rw[this.2]
    ·intro s R a1 a2 a3
     have:=pd.get s R a1 a2 a3;simp only[Prod.mk.injEq]at this;show(last,repS _ _ _)=_
     rw[this.2]
    ·intro s a1 a2 a3 a4
     exact pd.cut s a1 a2 a3 a4
  obtain⟨l1,D1,p1,t1⟩:=hx;have hl1:=(took_e p1 he t1).2;rw[hl1]at h;have hz:0<szN x:=by
   cases x<;>simp only[szN]<;>omega
  obtain⟨D2,p2,t2⟩:=qe8 N l (by simp only[szL]at hN;omega) hp.2 l1 _ h1 h;refine⟨D1++D2,pk_then (f:=fun s=>runN x last s) (g:=fun s=>(0,runL l l1 s)) _ ?_ ?_ p1 p2,took_then p1 he t1 t2⟩
  ·intro s hs h2
   have h3:(runN x last s).1=l1:=h2;rw[runL,if_neg (by omega),h3]
  ·intro s hs h2
   show runL (x::l) last s=_
   rw[runL,if_neg (by omega)];exact qcu _ _ h2
end
section
open Go.RowKit
open BitsM
theorem qdM {id:Int}(h:qbA id=true):id=0\/id=1\/id=3\/id=5\/id=11\/id=15\/id=21\/id=27\/id=42\/id=57\/id=58\/id=80:=by
 unfold qbA at h;simp only[Bool.or_eq_true,decide_eq_true_eq]at h;omega
structure Shape (id:Int) (pre:List Nd) (a:Nat) (post:List Nd):Prop where
 ast:astOf id=pre++ .v 7:: .v a::post
 pre:pre=[]\/pre=[.v 6]
 plain:qgk (.v a::post)=true
 words:qbe (qco id)=qai (astOf id)
 size:(qco id).size<=65536
 good:goodL (astOf id)=true
 seven:c7 (astOf id)=1
 may:mayOf 5 id=true
theorem qel {id:Int}(h:qbA id=true): ∃pre a post,Shape id pre a post:=by
 rcases qdM h with rfl|rfl|rfl|rfl|rfl|rfl|rfl|rfl|rfl|rfl|rfl|rfl
 ·exact⟨[],8,[.v 4,.v 13,.v 14,.v 15,.v 16,.v 17,.v 18,.g 2 [.v 19],.v 20,.v 21,.v 22,.v 23,.g 1 [.v 24]],rfl,.inl rfl,by kernel_rfl,words0,Nat.le_of_ble_eq_true (by kernel_rfl),by kernel_rfl,by kernel_rfl,by kernel_rfl⟩
 ·exact⟨[],8,[.v 4,.v 74,.v 13,.v 14,.v 15,.v 16,.v 17,.v 18,.g 2 [.v 19],.v 20,.v 21,.v 22,.v 23,.g 1 [.v 24]],rfl,.inl rfl,by kernel_rfl,words1,Nat.le_of_ble_eq_true (by kernel_rfl),by kernel_rfl,by kernel_rfl,by kernel_rfl⟩
 ·exact⟨[.v 6],8,[.v 84,.v 27,.g 0 [.v 10],.v 85,.v 87,.v 86],rfl,.inr rfl,by kernel_rfl,words3,Nat.le_of_ble_eq_true (by kernel_rfl),by kernel_rfl,by kernel_rfl,by kernel_rfl⟩
 ·exact⟨[.v 6],8,[.v 44,.v 12,.g 1 [.v 10],.v 11,.v 45,.v 46,.v 47,.v 27,.g 0 [.v 44,.v 12,.g 1 [.v 10],.v 11,.v 45,.v 46,.v 47]],rfl,.inr rfl,by kernel_rfl,words5,Nat.le_of_ble_eq_true (by kernel_rfl),by kernel_rfl,by kernel_rfl,by kernel_rfl⟩
 ·exact⟨[],75,[.v 76,.v 77,.v 78,.v 79,.v 80,.v 81,.v 27,.g 0 [.v 82],.v 27,.g 0 [.v 83]],rfl,.inl rfl,by kernel_rfl,words11,Nat.le_of_ble_eq_true (by kernel_rfl),by kernel_rfl,by kernel_rfl,by kernel_rfl⟩
 ·exact⟨[.v 6],8,[.v 25,.v 26,.v 27,.g 0 [.v 28,.v 29,.g 1 [.v 30,.v 31]],.v 32,.v 29,.g 1 [.v 30,.v 31],.v 33,.g 1 [.v 34,.v 35],.v 36,.g 1 [.v 37,.v 38],.v 39,.g 1 [.v 40,.v 41,.v 42,.v 43]],rfl,.inr rfl,by kernel_rfl,words15,Nat.le_of_ble_eq_true (by kernel_rfl),by kernel_rfl,by kernel_rfl,by kernel_rfl⟩
 ·exact⟨[.v 6],8,[.v 48,.v 49,.v 50,.v 27,.g 0 [.v 48,.v 49,.v 50]],rfl,.inr rfl,by kernel_rfl,words21,Nat.le_of_ble_eq_true (by kernel_rfl),by kernel_rfl,by kernel_rfl,by kernel_rfl⟩
 ·exact⟨[.v 6],8,[.v 51,.v 52,.v 53,.v 27,.g 0 [.v 54,.v 55],.v 27,.g 0 [.v 51,.v 52,.v 53,.v 27,.g 0 [.v 54,.v 55]]],rfl,.inr rfl,by kernel_rfl,words27,Nat.le_of_ble_eq_true (by kernel_rfl),by kernel_rfl,by kernel_rfl,by kernel_rfl⟩
 ·exact⟨[.v 6],62,[.v 10,.v 63,.v 64,.v 64,.v 65],rfl,.inr rfl,by kernel_rfl,words42,Nat.le_of_ble_eq_true (by kernel_rfl),by kernel_rfl,by kernel_rfl,by kernel_rfl⟩
 ·exact⟨[.v 6],66,[.v 67,.v 68],rfl,.inr rfl,by kernel_rfl,words57,Nat.le_of_ble_eq_true (by kernel_rfl),by kernel_rfl,by kernel_rfl,by kernel_rfl⟩
 ·exact⟨[.v 6],8,[.v 69,.v 70,.v 71,.v 27,.g 0 [.v 72,.v 73]],rfl,.inr rfl,by kernel_rfl,words58,Nat.le_of_ble_eq_true (by kernel_rfl),by kernel_rfl,by kernel_rfl,by kernel_rfl⟩
 ·exact⟨[.v 6],8,[.v 56,.v 57,.v 58,.v 59,.v 60,.v 61,.v 27,.g 0 [.v 56,.v 57,.v 58,.v 59,.v 60,.v 61]],rfl,.inr rfl,by kernel_rfl,words80,Nat.le_of_ble_eq_true (by kernel_rfl),by kernel_rfl,by kernel_rfl,by kernel_rfl⟩
theorem w7:qak 7=13:=by kernel_rfl
theorem w5:qak 5=8:=by kernel_rfl
theorem may70:mayOf 7 0=true:=by kernel_rfl
theorem run_last (a:Nat)(l:List Nd)(last:Int)(s:WS):runL (.v a::l) last s=runL (.v a::l) 0 s:=by
 rw[runL,runL,runN,runN]
theorem qfF {s:WS}(hrd:s.rd=false)(he:s.e=0):oneS 7 s=(0, {s with place:=s.out.length,out:=s.out++[(0,13)]}):=by
 have hf:fetch 7 s=(0,s):=by rw[fetch,hrd,if_neg (by decide),if_pos rfl]
 rw[oneS,if_neg (by omega),hf,if_neg (by simp only;omega),if_neg (by simp only[may70];decide),keep,if_pos rfl,w7];rfl
theorem qfE {s:WS}{n:Int}{R:List Bool}(hrd:s.rd=true)(he:s.e=0)(hm:mayOf 7 n=true)(hb:s.bits=qaz [(n,13)]++R):oneS 7 s=(n, {s with bits:=R,place:=s.out.length,out:=s.out++[(n,13)]}):=by
 have hn:=may_fit 7 (by decide) n hm;rw[show qak ((7:Nat):Int)=13 from w7]at hn;have hl:qaz [(n,13)]=wbits n.toNat 13 13:=by rw[qd7];rfl
 rw[hl]at hb;have hnum:(num (wbits n.toNat 13 13):Int)=n:=by
  rw[num_wbits _ _ (by omega)];exact Int.toNat_of_nonneg hn.1
 have hf:fetch 7 s=(n, {s with bits:=R}):=by
  have e1:s.bits.take 13=wbits n.toNat 13 13:=by rw[hb];exact List.take_left' (qaH _ _ _)
  have e2:s.bits.drop 13=R:=by rw[hb];exact List.drop_left' (qaH _ _ _)
  rw[fetch,hrd,if_pos rfl,w7,if_neg (by rw[hb,List.length_append,qaH];omega),e1,e2,hnum]
 rw[oneS,if_neg (by omega),hf,if_neg (by simp only;omega),if_neg (by simp only[hm];decide),keep,if_pos rfl,w7];rfl
theorem seven_cut {s:WS}(hrd:s.rd=true)(he:s.e=0)(hb:s.bits.length<13):(oneS 7 s).2.e=10:=by
 have hf:fetch 7 s=(0, {s with e:=10}):=by rw[fetch,hrd,if_pos rfl,w7,if_pos hb]
 rw[oneS,if_neg (by omega),hf,if_pos (by simp only;omega)]
theorem seven_took {s:WS}(he:s.e=0)(h:(oneS 7 s).2.e=0)(hrd:s.rd=true): ∃n R,mayOf 7 n=true/\s.bits=qaz [(n,13)]++R:=by
 rw[oneS,if_neg (by omega)]at h;have e0:fetch 7 s=if s.bits.length<13 then(0, {s with e:=10})else(((num (s.bits.take 13):Nat):Int), {s with bits:=s.bits.drop 13}):=by rw[fetch,hrd,if_pos rfl,w7]
 by_cases hb:s.bits.length<13
 ·rw[e0,if_pos hb,if_pos (by simp only;omega)]at h;exact absurd (show(10:Int)=0 from h) (by decide)
 ·rw[if_neg hb]at e0
  rw[e0,if_neg (by simp only;omega)]at h;by_cases hm:mayOf 7 ((num (s.bits.take 13):Nat):Int)=true
  ·refine⟨_,s.bits.drop 13,hm,?_⟩
   rw[qd7];simp only[Int.toNat_natCast];have hlen:(s.bits.take 13).length=13:=by rw[List.length_take];omega
   have hw:wbits (num (s.bits.take 13)) 13 13=s.bits.take 13:=by
    apply List.ext_getElem (by rw[qaH,hlen])
    intro i h1 h2;have hi:i<13:=by rw[qaH]at h1;exact h1
    have g1:=qeJ (num (s.bits.take 13)) 13 13 i hi;rw[qdP,hlen,decide_eq_true (by omega),Bool.true_and,show 13-1-(13-1-i)=i by omega]at g1
    simpa[List.getD_eq_getElem?_getD,List.getElem?_eq_getElem h1,List.getElem?_eq_getElem h2]using g1
   show s.bits=wbits (num (s.bits.take 13)) 13 13++s.bits.drop 13
   rw[hw,List.take_append_drop]
  ·rw[if_pos (by simpa using hm)]at h;exact absurd (show(20:Int)=0 from h) (by decide)
structure Wh (id:Int) (D1 D2:List (Int×Int)):Prop where
 fit: ∀x∈D1++D2,FitP x
 items: ∀s R,s.rd=false->s.e=0->s.V=(D1++D2).map Prod.fst++R->runL (astOf id) 0 s= {s with V:=R,out:=s.out++D1++(0,13)::D2,got:=s.got++(D1++D2).map Prod.fst,place:=(s.out++D1).length}
 get: ∀s R n,s.rd=true->s.e=0->mayOf 7 n=true->s.bits=qaz (D1++(n,13)::D2)++R->runL (astOf id) 0 s= {s with bits:=R,out:=s.out++D1++(n,13)::D2,got:=s.got++(D1++D2).map Prod.fst,place:=(s.out++D1).length}
 cut: ∀s n,s.rd=true->s.e=0->mayOf 7 n=true->s.bits.length<(qaz (D1++(n,13)::D2)).length->s.bits=(qaz (D1++(n,13)::D2)).take s.bits.length->(runL (astOf id) 0 s).e=10
end
section
open Go.RowKit
open BitsM
theorem run_pre {pre:List Nd}{a:Nat}{post:List Nd}(hp:pre=[]\/pre=[.v 6])(s:WS)(he:s.e=0):
  runL (pre++ .v 7:: .v a::post) 0 s=if(runL pre 0 s).e≠0 then runL pre 0 s else runL (.v a::post) 0 (oneS 7 (runL pre 0 s)).2:=by
 have h7: ∀last t,runL (.v 7:: .v a::post) last t=if t.e≠0 then t else runL (.v a::post) 0 (oneS 7 t).2:=by
  intro last t;rw[runL,runN];split
  ·rfl
  ·exact run_last a post _ _
 rcases hp with rfl|rfl
 ·exact h7 0 s
 ·have e1:runL [.v 6] 0 s=(oneS 6 s).2:=by rw[runL,if_neg (by omega),runN,runL];rfl
  show runL (.v 6::(.v 7:: .v a::post)) 0 s=_
  rw[e1,runL,if_neg (by omega),runN];exact h7 _ _
theorem wh_make {id:Int}{pre:List Nd}{a:Nat}{post:List Nd}{D1 D2:List (Int×Int)}(sh:Shape id pre a post)(p1:Pk (fun s=>(0,runL pre 0 s)) 0 D1)(p2:Pk (fun s=>(0,runL (.v a::post) 0 s)) 0 D2):Wh id D1 D2:=by
 have ei: ∀s R,s.rd=false->s.e=0->s.V=D1.map Prod.fst++R->runL pre 0 s=adv s D1 R:=fun s R h1 h2 h3=>congrArg Prod.snd (p1.items s R h1 h2 h3);have eg: ∀s R,s.rd=true->s.e=0->s.bits=qaz D1++R->runL pre 0 s=advB s D1 R:=fun s R h1 h2 h3=>congrArg Prod.snd (p1.get s R h1 h2 h3);have fi: ∀s R,s.rd=false->s.e=0->s.V=D2.map Prod.fst++R->runL (.v a::post) 0 s=adv s D2 R:=fun s R h1 h2 h3=>congrArg Prod.snd (p2.items s R h1 h2 h3);have fg: ∀s R,s.rd=true->s.e=0->s.bits=qaz D2++R->runL (.v a::post) 0 s=advB s D2 R:=fun s R h1 h2 h3=>congrArg Prod.snd (p2.get s R h1 h2 h3);have e3: ∀n,qaz (D1++(n,13)::D2)=qaz D1++(qaz [(n,13)]++qaz D2):=fun n=>by
  rw[show D1++(n,(13:Int))::D2=D1++([(n,13)]++D2)from rfl,qbD,qbD]
 refine⟨?_,?_,?_,?_⟩
 ·intro x hx
  rw[List.mem_append]at hx;exact hx.elim (p1.fit x) (p2.fit x)
 ·intro s R hrd he hV
  rw[List.map_append,List.append_assoc]at hV;rw[sh.ast,run_pre sh.pre s he,ei s _ hrd he hV,if_neg (show¬(adv s D1 (D2.map Prod.fst++R)).e≠0 from fun k=>k he),qfF (s:=adv s D1 _) hrd he];refine Eq.trans (fi _ R ?_ ?_ ?_) ?_
  ·exact hrd
  ·exact he
  ·rfl
  simp[adv,List.append_assoc]
 ·intro s R n hrd he hm hb
  rw[e3,List.append_assoc,List.append_assoc]at hb;rw[sh.ast,run_pre sh.pre s he,eg s _ hrd he hb,if_neg (show¬(advB s D1 (qaz [(n,13)]++(qaz D2++R))).e≠0 from fun k=>k he),qfE (s:=advB s D1 _) (R:=qaz D2++R) hrd he hm rfl];refine Eq.trans (fg _ R ?_ ?_ ?_) ?_
  ·exact hrd
  ·exact he
  ·rfl
  simp[advB,List.append_assoc]
 ·intro s n hrd he hm hlt hb
  rw[e3]at hlt hb;rw[List.length_append]at hlt;rw[sh.ast,run_pre sh.pre s he];by_cases h1:s.bits.length<(qaz D1).length
  ·have hb1:s.bits=(qaz D1).take s.bits.length:=by
    rw[List.take_append_of_le_length (by omega)]at hb;exact hb
   have he1:(runL pre 0 s).e=10:=p1.cut s hrd he h1 hb1;rw[if_pos (by rw[he1];decide)];exact he1
  ·obtain⟨B,hB⟩:=geZ ((qaz [(n,13)]++qaz D2).take (s.bits.length-(qaz D1).length))
   have hb1:s.bits=qaz D1++B:=by
    rw[List.take_append,List.take_of_length_le (by omega),hB]at hb;exact hb
   have hBl:B.length=s.bits.length-(qaz D1).length:=by
    rw[<-hB,List.length_take];omega
   have h13:(qaz [(n,13)]).length=13:=by rw[qd7,qaH];rfl
   rw[eg s B hrd he hb1,if_neg (show¬(advB s D1 B).e≠0 from fun k=>k he)];rw[List.length_append]at hlt;by_cases h2:B.length<13
   ·have he7:=seven_cut (s:=advB s D1 B) hrd he h2
    rw[qcu _ _ (by rw[he7];decide)];exact he7
   ·obtain⟨C,hC⟩:=geZ ((qaz D2).take (B.length-13))
    have hB2:B=qaz [(n,13)]++C:=by
     rw[<-hB,List.take_append,List.take_of_length_le (by omega),h13,<-hBl,hC]
    have hCl:C.length=B.length-13:=by rw[<-hC,List.length_take];omega
    rw[qfE (s:=advB s D1 B) (R:=C) hrd he hm hB2];exact p2.cut _ hrd he (by show C.length<_;omega) (by show C=(qaz D2).take C.length;rw[hCl,hC])
theorem wh_of_run {id:Int}(hk:qbA id=true){s:WS}(he:s.e=0)(h:(runL (astOf id) 0 s).e=0):
  ∃D1 D2,Wh id D1 D2/\(s.rd=false-> ∃R,s.V=(D1++D2).map Prod.fst++R)/\(s.rd=true-> ∃n R,mayOf 7 n=true/\s.bits=qaz (D1++(n,13)::D2)++R):=by
 obtain⟨pre,a,post,sh⟩:=qel hk;rw[sh.ast,run_pre sh.pre s he]at h;have h1:(runL pre 0 s).e=0:=by
  by_cases k:(runL pre 0 s).e=0
  ·exact k
  ·rw[if_pos k]at h;exact absurd h k
 rw[if_neg (by omega)]at h;have hpp:qgk pre=true:=by rcases sh.pre with rfl|rfl<;>rfl
 obtain⟨D1,p1,t1⟩:=qe8 _ pre (Nat.lt_succ_self _) hpp 0 s he h1;have h7:(oneS 7 (runL pre 0 s)).2.e=0:=by
  by_cases k:(oneS 7 (runL pre 0 s)).2.e=0
  ·exact k
  ·rw[qcu _ _ k]at h;exact absurd h k
 obtain⟨D2,p2,t2⟩:=qe8 _ (.v a::post) (Nat.lt_succ_self _) sh.plain 0 _ h7 h;refine⟨D1,D2,wh_make sh p1 p2,?_,?_⟩
 ·intro hrd
  obtain⟨R,hR⟩:=t1.1 hrd;have e1:runL pre 0 s=adv s D1 R:=congrArg Prod.snd (p1.items s R hrd he hR);rw[e1,qfF (s:=adv s D1 R) hrd he]at t2;obtain⟨R2,hR2⟩:=t2.1 hrd;exact⟨R2,by rw[hR,show R=_ from hR2,List.map_append,List.append_assoc]⟩
 ·intro hrd
  obtain⟨R,hR⟩:=t1.2 hrd;have e1:runL pre 0 s=advB s D1 R:=congrArg Prod.snd (p1.get s R hrd he hR);rw[e1]at h7 t2;obtain⟨n,R2,hm,hb2⟩:=seven_took (s:=advB s D1 R) he h7 hrd;rw[qfE (s:=advB s D1 R) (R:=R2) hrd he hm hb2]at t2;obtain⟨R3,hR3⟩:=t2.2 hrd;refine⟨n,R3,hm,?_⟩;rw[show D1++(n,(13:Int))::D2=D1++([(n,13)]++D2)from rfl,qbD,qbD,hR,show R=_ from hb2,show R2=_ from hR3];simp[List.append_assoc]
def qbc (id:Int)(V:List Int):WS:=⟨V,false,[],[(id,8)],[],0,0⟩
def qcF (id:Int)(V:List Int):List (Int×Int)×Int:=
 if qbA id=false then([],50)else
 if(runL (astOf id) 0 (qbc id V)).e≠0 then([],(runL (astOf id) 0 (qbc id V)).e)else
 if(runL (astOf id) 0 (qbc id V)).V≠[]then([],20)else
 if 8184<qar (runL (astOf id) 0 (qbc id V)).out then([],2)else
 ((runL (astOf id) 0 (qbc id V)).out.set (runL (astOf id) 0 (qbc id V)).place.toNat (qar (runL (astOf id) 0 (qbc id V)).out,13),0)
theorem total_append (a b:List (Int×Int)):qar (a++b)=qar a+qar b:=by
 have h: ∀(l:List (Int×Int)) (n:Int),l.foldl (fun n x=>n+x.2) n=n+qar l:=by
  intro l
  induction l with
  |nil=>intro n;simp[qar]
  |cons x l ih=>
   intro n;have e:qar (x::l)=l.foldl (fun n x=>n+x.2) (0+x.2):=rfl;rw[List.foldl_cons,ih,e,ih];omega
 rw[qar,List.foldl_append,h,<-qar]
theorem total_cons (x:Int×Int)(l:List (Int×Int)):qar (x::l)=x.2+qar l:=by
 rw[show x::l=[x]++l from rfl,total_append];simp[qar]
theorem qf7 {id:Int}{V:List Int}(hk:qbA id=true)(h:(runL (astOf id) 0 (qbc id V)).e=0):
  ∃D1 D2 R,Wh id D1 D2/\V=(D1++D2).map Prod.fst++R/\runL (astOf id) 0 (qbc id V)= {qbc id V with V:=R,out:=[(id,8)]++D1++(0,13)::D2,got:=(D1++D2).map Prod.fst,place:=([(id,(8:Int))]++D1).length} :=by
 obtain⟨D1,D2,w,hi,_⟩:=wh_of_run hk (s:=qbc id V) rfl h;obtain⟨R,hR⟩:=hi rfl;exact⟨D1,D2,R,w,hR,w.items (qbc id V) R rfl rfl hR⟩
theorem out_fit {id:Int}{D1 D2:List (Int×Int)}{n:Int}(w:Wh id D1 D2)(h0:0<=id)(h1:id<256)(hn0:0<=n)(hn:n<8192): ∀x∈[(id,(8:Int))]++D1++(n,(13:Int))::D2,FitP x:=by
 intro x hx;simp only[List.append_assoc,List.mem_append,List.mem_cons,List.not_mem_nil,or_false]at hx
 rcases hx with rfl|hx|rfl|hx
 ·exact⟨h0,by simp only;omega,by simp only;omega,by simp only;omega⟩
 ·exact w.fit x (List.mem_append_left _ hx)
 ·exact⟨hn0,by simp only;omega,by simp only;omega,by simp only;omega⟩
 ·exact w.fit x (List.mem_append_right _ hx)
end
section
open Go.RowKit
open BitsM
theorem known_id {id:Int}(h:qbA id=true):0<=id/\id<256/\mayOf 5 id=true:=by
 obtain⟨_,_,_,sh⟩:=qel h;have:=qdM h;exact⟨by omega,by omega,sh.may⟩
theorem getD_mid2 (id:Int)(D1 D2:List (Int×Int))(x:Int×Int):([(id,(8:Int))]++D1++x::D2).getD ([(id,(8:Int))]++D1).length (0,0)=x:=by
 rw[List.getD_eq_getElem?_getD,List.getElem?_append_right (Nat.le_refl _),Nat.sub_self];rfl
end
section
open Go.RowKit
open BitsM
structure LnOk (x:(Int×Int)×(Int×Int)):Prop where
 n0:0<=x.1.1
 n1:x.1.1<=32767
 c0:0<=x.1.2
 c1:x.1.2<=1023
 b0:0<=x.2.1
 b1:x.2.1<=16383
 o0:0<=x.2.2
 o1:x.2.2<=1
def qay (p:Int×List Int):Bool:=decide ((qcF p.1 p.2).2=0)
end
section
open Go.RowKit
open BitsM
theorem one_inv17 {v:Nat}{s:WS}(hrd:s.rd=false)(h7:v≠7)(h:(oneS v s).2.e=0):s.e=0/\s.V=(oneS v s).1::(oneS v s).2.V/\mayOf v (oneS v s).1=true/\(oneS v s).2.rd=false:=by
 have h7': ¬((v:Int)=7):=by omega
 unfold oneS at h⊢;by_cases h0:s.e≠0
 ·rw[if_pos h0]at h
  exact absurd h h0
 ·rw[if_neg h0]at h⊢
  have he:s.e=0:=by simpa using h0
  cases hV:s.V with
  |nil=>
   have hf:fetch v s=(0, {s with e:=20}):=by unfold fetch;rw[if_neg (by rw[hrd];decide),if_neg h7',if_pos hV]
   rw[hf,if_pos (show({s with e:=20} :WS).e≠0 from by show(20:Int)≠0;decide)]at h;exact absurd h (by show¬((20:Int)=0);decide)
  |cons x r=>
   have hf:fetch v s=(x, {s with V:=r}):=by
    unfold fetch;rw[if_neg (by rw[hrd];decide),if_neg h7',if_neg (by rw[hV];simp),hV]
    rfl
   rw[hf]at h⊢;rw[if_neg (by dsimp only;exact h0)]at h⊢;by_cases hm:mayOf v x=false
   ·rw[if_pos hm]at h
    exact absurd h (by show¬((20:Int)=0);decide)
   ·rw[if_neg hm]
    have hm':mayOf v x=true:=by simpa using hm
    refine⟨he,?_,hm',?_⟩
    ·unfold keep
     dsimp only;rw[if_neg h7'];split<;>rfl
    ·unfold keep
     dsimp only;rw[if_neg h7'];split<;>exact hrd
theorem seven_inv17 {s:WS}(hrd:s.rd=false)(h:(oneS 7 s).2.e=0):s.e=0/\(oneS 7 s).2.V=s.V/\(oneS 7 s).2.rd=false:=by
 unfold oneS at h⊢;by_cases h0:s.e≠0
 ·rw[if_pos h0]at h
  exact absurd h h0
 ·have hf:fetch 7 s=(0,s):=by unfold fetch;rw[if_neg (by rw[hrd];decide),if_pos rfl]
  have he:s.e=0:=by simpa using h0
  rw[if_neg h0,hf]at h⊢;rw[if_neg h0]at h⊢;by_cases hm:mayOf 7 0=false
  ·rw[if_pos hm]at h
   exact absurd h (by show¬((20:Int)=0);decide)
  ·rw[if_neg hm]
   exact⟨he,rfl,hrd⟩
def ShRep (P:List Int->List Int->Prop):Nat->List Int->List Int->Prop
 |0,V,U=>U=V
 |m+1,V,U=> ∃W,P V W/\ShRep P m W U
theorem ShRep.snoc {P:List Int->List Int->Prop}{m:Nat}{V W U:List Int}(h:ShRep P m V W)(hp:P W U):ShRep P (m+1) V U:=by
 induction m generalizing V with
 |zero=>
  have h:W=V:=h;subst h;exact⟨U,hp,rfl⟩
 |succ m ih=>
  obtain⟨X,h1,h2⟩:=h;exact⟨X,h1,ih h2⟩
theorem ShRep.imp {P Q:List Int->List Int->Prop}(hPQ: ∀V U,P V U->Q V U){m:Nat}{V U:List Int}(h:ShRep P m V U):ShRep Q m V U:=by
 induction m generalizing V with
 |zero=>exact h
 |succ m ih=>
  obtain⟨X,h1,h2⟩:=h;exact⟨X,hPQ _ _ h1,ih h2⟩
mutual
def ShN:Nd->Int->List Int->Int->List Int->Prop
 | .v n,_,V,l1,U=>if n=7 then U=V else V=l1::U/\mayOf n l1=true
 | .g k b,last,V,l1,U=>l1=last/\ShRep (fun V U=>ShL b 0 V U) (many k last) V U
def ShL:List Nd->Int->List Int->List Int->Prop
 |[],_,V,U=>U=V
 |x::l,last,V,U=> ∃l1 W,ShN x last V l1 W/\ShL l l1 W U
end
theorem rep_inv17 {P:List Int->List Int->Prop}{f:WS->WS}(hf: ∀s:WS,s.rd=false->(f s).e=0->s.e=0/\P s.V (f s).V/\(f s).rd=false)(m:Nat){s:WS}(hrd:s.rd=false)(h:(repS f m s).e=0):s.e=0/\ShRep P m s.V (repS f m s).V/\(repS f m s).rd=false:=by
 induction m generalizing s with
 |zero=>exact⟨h,rfl,hrd⟩
 |succ m ih=>
  rw[repS]at h⊢;by_cases h0:s.e≠0
  ·rw[if_pos h0]at h
   exact absurd h h0
  ·rw[if_neg h0]at h⊢
   have he:s.e=0:=by simpa using h0
   have h1:(f s).e=0:=by
    by_cases h2:(f s).e≠0
    ·rw[qe7 _ _ h2]at h
     exact absurd h h2
    ·simpa using h2
   obtain⟨g1,g2,g3⟩:=hf s hrd h1;obtain⟨k1,k2,k3⟩:=ih g3 h;exact⟨he,⟨_,g2,k2⟩,k3⟩
mutual
theorem shN_inv17: ∀(x:Nd) (last:Int) (s:WS),s.rd=false->(runN x last s).2.e=0->s.e=0/\ShN x last s.V (runN x last s).1 (runN x last s).2.V/\(runN x last s).2.rd=false
 | .v n,last,s,hrd,h=>by
  simp only[runN]at h⊢;by_cases h7:n=7
  ·subst h7
   obtain⟨h1,h2,h3⟩:=seven_inv17 hrd h;refine⟨h1,?_,h3⟩;rw[ShN,if_pos rfl];exact h2
  ·obtain⟨h1,h2,h3,h4⟩:=one_inv17 hrd h7 h
   refine⟨h1,?_,h4⟩;rw[ShN,if_neg h7];exact⟨h2,h3⟩
 | .g k b,last,s,hrd,h=>by
  simp only[runN]at h⊢;obtain⟨h1,h2,h3⟩:=rep_inv17 (P:=fun V U=>ShL b 0 V U) (fun s hs h=>qfG b 0 s hs h) (many k last) hrd h;refine⟨h1,?_,h3⟩;rw[ShN];exact⟨rfl,h2⟩
theorem qfG: ∀(b:List Nd) (last:Int) (s:WS),s.rd=false->(runL b last s).e=0->s.e=0/\ShL b last s.V (runL b last s).V/\(runL b last s).rd=false
 |[],last,s,hrd,h=>by
  simp only[runL]at h⊢;refine⟨h,?_,hrd⟩;rw[ShL]
 |x::l,last,s,hrd,h=>by
  simp only[runL]at h⊢;by_cases h0:s.e≠0
  ·rw[if_pos h0]at h
   exact absurd h h0
  ·rw[if_neg h0]at h⊢
   have he:s.e=0:=by simpa using h0
   have h1:(runN x last s).2.e=0:=by
    by_cases h2:(runN x last s).2.e≠0
    ·rw[qcu _ _ h2]at h
     exact absurd h h2
    ·simpa using h2
   obtain⟨g1,g2,g3⟩:=shN_inv17 x last s hrd h1;obtain⟨k1,k2,k3⟩:=qfG l _ _ g3 h;refine⟨he,?_,k3⟩;rw[ShL];exact⟨_,_,g2,k2⟩
end
theorem qd6 {id:Int}{V:List Int}(h:qay (id,V)=true):ShL (astOf id) 0 V []:=by
 unfold qay qcF at h;rw[decide_eq_true_eq]at h;dsimp only at h;split at h
 ·exact absurd h (by show¬((50:Int)=0);decide)
 ·split at h
  ·rename_i h2
   exact absurd h h2
  ·rename_i h2
   split at h
   ·exact absurd h (by show¬((20:Int)=0);decide)
   ·rename_i h3
    have h4:=qfG (astOf id) 0 (qbc id V) rfl (by simpa using h2);have h5:(runL (astOf id) 0 (qbc id V)).V=[]:=by simpa using h3
    rw[h5]at h4;exact h4.2.1
theorem qbr {v:Nat}{x M:Int}(h:mayOf v x=true)(hM:qbn v=M)(hs:qbk v=0):0<=x/\x<=M:=by
 unfold mayOf at h;rw[hM,hs]at h;simp only[Bool.and_eq_true,Bool.or_eq_true,decide_eq_true_eq]at h;refine⟨h.1.2,?_⟩
 rcases h.2 with h|h
 ·exact h
 ·exact absurd rfl h.1.1
/-! ## Packet 15 -/
def SecSh (V U:List Int):Prop:= ∃x q,(0<=x/\x<=32767)/\((q=0/\V=x::q::U)\/(q=1/\ ∃a b,(0<=a/\a<=1023)/\V=x::q::a::b::U))
def GapSh (V:List Int):Prop:= ∃q p R,(0<=p/\p<=1)/\((q=0/\V=q::p::R)\/(q=1/\ ∃a b,V=q::a::b::p::R))/\(p=1-> ∃g z S,(0<=g/\g<=32767)/\R=g::z::S)
theorem qeB {last:Int}{a b:Nat}{V U:List Int}(ha:a≠7)(hb:b≠7)(hl:0<=last/\last<=1)(h: ∃l1 W,ShN (.g 1 [.v a,.v b]) last V l1 W/\(l1=last/\U=W)):(last=0/\V=U)\/(last=1/\ ∃x y,mayOf a x=true/\mayOf b y=true/\V=x::y::U):=by
 obtain⟨l1,W,h1,rfl,rfl⟩:=h;rw[ShN]at h1;obtain⟨-,h1⟩:=h1
 rcases(by omega:l1=0\/l1=1)with rfl|rfl
 ·exact .inl ⟨rfl,(show U=V from h1).symm⟩
 ·refine .inr ⟨rfl,?_⟩
  obtain⟨X,h2,h3⟩:=h1;have h3:U=X:=h3;subst h3;simp only[ShL,ShN,if_neg ha,if_neg hb]at h2;obtain⟨x,W1,⟨rfl,m1⟩,y,W2,⟨rfl,m2⟩,h2⟩:=h2;subst h2;exact⟨x,y,m1,m2,rfl⟩
theorem sec_inv17 {v:Nat}(hv:v≠7)(hm:qbn v=32767)(hs:qbk v=0){V U:List Int}(h: ∃l1 W,ShN (.v v) 0 V l1 W/\ ∃l2 W2,ShN (.v 29) l1 W l2 W2/\ ∃l3 W3,ShN (.g 1 [.v 30,.v 31]) l2 W2 l3 W3/\U=W3):SecSh V U:=by
 obtain⟨x,W,h1,q,W2,h2,l3,W3,h3,rfl⟩:=h;rw[ShN,if_neg hv]at h1;rw[ShN,if_neg (by decide)]at h2;obtain⟨rfl,m1⟩:=h1;obtain⟨rfl,m2⟩:=h2;have b1:=qbr m1 hm hs;have b2:=qbr m2 (show qbn (29:Nat)=1 from by kernel_rfl) (by kernel_rfl);have h4:l3=q:=by rw[ShN]at h3;exact h3.1
 rcases qeB (by decide) (by decide) b2 ⟨l3,_,h3,h4,rfl⟩with⟨rfl,rfl⟩|⟨rfl,a,b,ma,_,rfl⟩
 ·exact⟨x,0,b1,.inl ⟨rfl,rfl⟩⟩
 ·exact⟨x,1,b1,.inr ⟨rfl,a,b,qbr ma (show qbn (30:Nat)=1023 from by kernel_rfl) (by kernel_rfl),rfl⟩⟩
theorem qda {V:List Int}(h:qay (15,V)=true): ∃d u a b n R0 R1,V=d::u::a::b::n::R0/\(0<=d/\d<=2)/\(0<=u/\u<=2)/\(0<=n/\n<=31)/\ShRep SecSh (n.toNat+1) R0 R1/\GapSh R1:=by
 have h1:=qd6 h;rw[show astOf 15=ast15 from rfl]at h1;unfold ast15 at h1;rw[ShL]at h1;obtain⟨d,W1,m1,h1⟩:=h1;rw[ShN,if_neg (by decide)]at m1;obtain⟨rfl,m1⟩:=m1;rw[ShL]at h1;obtain⟨l2,W2,m2,h1⟩:=h1;rw[ShN,if_pos rfl]at m2;subst m2;rw[ShL]at h1;obtain⟨u,W3,m3,h1⟩:=h1;rw[ShN,if_neg (by decide)]at m3;obtain⟨rfl,m3⟩:=m3;rw[ShL]at h1;obtain⟨a,W4,m4,h1⟩:=h1;rw[ShN,if_neg (by decide)]at m4;obtain⟨rfl,m4⟩:=m4;rw[ShL]at h1;obtain⟨b,W5,m5,h1⟩:=h1;rw[ShN,if_neg (by decide)]at m5;obtain⟨rfl,m5⟩:=m5;rw[ShL]at h1;obtain⟨n,W6,m6,h1⟩:=h1;rw[ShN,if_neg (by decide)]at m6;obtain⟨rfl,m6⟩:=m6;rw[ShL]at h1;obtain⟨n2,W7,m7,h1⟩:=h1;rw[ShN]at m7;obtain⟨rfl,m7⟩:=m7;have hmany:many 0 n2=n2.toNat:=rfl;rw[hmany]at m7;have m7:ShRep SecSh n2.toNat W6 W7:=m7.imp fun V U hVU=>by
  simp only[ShL]at hVU;exact sec_inv17 (by decide) (by kernel_rfl) (by kernel_rfl) hVU
 rw[ShL]at h1;obtain⟨x,W8,m8,h1⟩:=h1;rw[ShL]at h1;obtain⟨q,W9,m9,h1⟩:=h1;rw[ShL]at h1;obtain⟨q2,W10,m10,h1⟩:=h1;have s1:SecSh W7 W10:=by
  refine sec_inv17 (v:=32) (by decide) (by kernel_rfl) (by kernel_rfl) ⟨x,W8,?_,q,W9,m9,q2,W10,m10,rfl⟩;rw[ShN]at m8⊢;exact m8
 rw[ShL]at h1;obtain⟨q3,W11,m11,h1⟩:=h1;rw[ShN,if_neg (by decide)]at m11;obtain⟨rfl,m11⟩:=m11;rw[ShL]at h1;obtain⟨q4,W12,m12,h1⟩:=h1;have e12:q4=q3:=by rw[ShN]at m12;exact m12.1
 have s2:=qeB (by decide) (by decide) (qbr m11 (show qbn (33:Nat)=1 from by kernel_rfl) (by kernel_rfl)) ⟨q4,W12,m12,e12,rfl⟩;rw[ShL]at h1;obtain⟨p,W13,m13,h1⟩:=h1;rw[ShN,if_neg (by decide)]at m13;obtain⟨rfl,m13⟩:=m13;rw[ShL]at h1;obtain⟨p2,W14,m14,h1⟩:=h1;have e14:p2=p:=by rw[ShN]at m14;exact m14.1
 have bp:=qbr m13 (show qbn (36:Nat)=1 from by kernel_rfl) (by kernel_rfl);have s3:=qeB (by decide) (by decide) bp ⟨p2,W14,m14,e14,rfl⟩;refine⟨d,u,a,b,n2,W6,q3::W11,rfl,qbr m1 (show qbn (6:Nat)=2 from by kernel_rfl) (by kernel_rfl),qbr m3 (show qbn (8:Nat)=2 from by kernel_rfl) (by kernel_rfl),qbr m6 (show qbn (27:Nat)=31 from by kernel_rfl) (by kernel_rfl),m7.snoc s1,?_⟩;refine⟨q3,p,W13,bp,?_,?_⟩
 ·rcases s2 with⟨rfl,rfl⟩|⟨rfl,x1,y1,_,_,rfl⟩
  ·exact .inl ⟨rfl,rfl⟩
  ·exact .inr ⟨rfl,x1,y1,rfl⟩
 ·intro hp
  rcases s3 with⟨e,_⟩|⟨_,g,z,mg,_,rfl⟩
  ·omega
  ·exact⟨g,z,W14,qbr mg (show qbn (37:Nat)=32767 from by kernel_rfl) (by kernel_rfl),rfl⟩
/-! ## Packet 5 -/
structure Lk17 where
 told:Bool
 group:Int
 rev:Bool
def LnkSh (k:Lk17)(V U:List Int):Prop:= ∃d b o r a,(0<=b/\b<=16383)/\((∃c,(0<=c/\c<=1023)/\V=d::1::c::b::o::r::a::U/\k=⟨true,c*16384+b,o==0⟩)\/(V=d::0::b::o::r::a::U/\k=⟨false,b,o==0⟩))
def qc4:List Lk17->List Int->List Int->Prop
 |[],V,U=>U=V
 |k::r,V,U=> ∃W,LnkSh k V W/\qc4 r W U
theorem lnk_inv17 {last:Int}{V U:List Int}(h: ∃l1 W1,ShN (.v 44) last V l1 W1/\ ∃l2 W2,ShN (.v 12) l1 W1 l2 W2/\ ∃l3 W3,ShN (.g 1 [.v 10]) l2 W2 l3 W3/\ ∃l4 W4,ShN (.v 11) l3 W3 l4 W4/\ ∃l5 W5,ShN (.v 45) l4 W4 l5 W5/\ ∃l6 W6,ShN (.v 46) l5 W5 l6 W6/\ ∃l7 W7,ShN (.v 47) l6 W6 l7 W7/\U=W7): ∃k,LnkSh k V U:=by
 obtain⟨d,W1,h1,q,W2,h2,l3,W3,h3,b,W4,h4,o,W5,h5,r,W6,h6,a,W7,h7,rfl⟩:=h;rw[ShN,if_neg (by decide)]at h1 h2 h4 h5 h6 h7;obtain⟨rfl,_⟩:=h1;obtain⟨rfl,m2⟩:=h2;obtain⟨rfl,m4⟩:=h4;obtain⟨rfl,_⟩:=h5;obtain⟨rfl,_⟩:=h6;obtain⟨rfl,_⟩:=h7;have b2:=qbr m2 (show qbn (12:Nat)=1 from by kernel_rfl) (by kernel_rfl);have b4:=qbr m4 (show qbn (11:Nat)=16383 from by kernel_rfl) (by kernel_rfl);rw[ShN]at h3;obtain⟨-,h3⟩:=h3
 rcases(by omega:q=0\/q=1)with rfl|rfl
 ·have h3:b::o::r::a::U=W2:=h3
  subst h3;exact⟨_,d,b,o,r,a,b4,.inr ⟨rfl,rfl⟩⟩
 ·obtain⟨X,g1,g2⟩:=h3
  have g2:b::o::r::a::U=X:=g2;subst g2;simp only[ShL,ShN,if_neg (show¬(10=7)from by decide)]at g1;obtain⟨c,W9,⟨rfl,mc⟩,g3⟩:=g1;subst g3;exact⟨_,d,b,o,r,a,b4,.inl ⟨c,qbr mc (show qbn (10:Nat)=1023 from by kernel_rfl) (by kernel_rfl),rfl,rfl⟩⟩
theorem lnks_rep17 {m:Nat}{V U:List Int}(h:ShRep (fun V U=> ∃k,LnkSh k V U) m V U): ∃ks:List Lk17,ks.length=m/\qc4 ks V U:=by
 induction m generalizing V with
 |zero=>exact⟨[],rfl,h⟩
 |succ m ih=>
  obtain⟨X,⟨k,h1⟩,h2⟩:=h;obtain⟨ks,h3,h4⟩:=ih h2;exact⟨k::ks,by rw[List.length_cons,h3],X,h1,h4⟩
theorem qeQ {V:List Int}(h:qay (5,V)=true): ∃d u R0 R1 n k ks,V=d::u::R0/\LnkSh k R0 (n::R1)/\(0<=n/\n<=31)/\ks.length=n.toNat/\qc4 ks R1 []:=by
 have h1:=qd6 h;rw[show astOf 5=ast5 from rfl]at h1;unfold ast5 at h1;rw[ShL]at h1;obtain⟨d,W1,m1,h1⟩:=h1;rw[ShN,if_neg (by decide)]at m1;obtain⟨rfl,m1⟩:=m1;rw[ShL]at h1;obtain⟨l2,W2,m2,h1⟩:=h1;rw[ShN,if_pos rfl]at m2;subst m2;rw[ShL]at h1;obtain⟨u,W3,m3,h1⟩:=h1;rw[ShN,if_neg (by decide)]at m3;obtain⟨rfl,m3⟩:=m3;rw[ShL]at h1;obtain⟨a1,A1,k1,h1⟩:=h1;rw[ShL]at h1;obtain⟨a2,A2,k2,h1⟩:=h1;rw[ShL]at h1;obtain⟨a3,A3,k3,h1⟩:=h1;rw[ShL]at h1;obtain⟨a4,A4,k4,h1⟩:=h1;rw[ShL]at h1;obtain⟨a5,A5,k5,h1⟩:=h1;rw[ShL]at h1;obtain⟨a6,A6,k6,h1⟩:=h1;rw[ShL]at h1;obtain⟨a7,A7,k7,h1⟩:=h1;obtain⟨k,hk⟩:=lnk_inv17 ⟨a1,A1,k1,a2,A2,k2,a3,A3,k3,a4,A4,k4,a5,A5,k5,a6,A6,k6,a7,A7,k7,rfl⟩;rw[ShL]at h1;obtain⟨n,W4,m4,h1⟩:=h1;rw[ShN,if_neg (by decide)]at m4;obtain⟨rfl,m4⟩:=m4;rw[ShL]at h1;obtain⟨n2,W5,m5,h1⟩:=h1;rw[ShN]at m5;obtain⟨rfl,m5⟩:=m5;rw[show many 0 n2=n2.toNat from rfl]at m5;rw[ShL]at h1;subst h1;obtain⟨ks,g1,g2⟩:=lnks_rep17 (m5.imp fun V U hVU=>by
  simp only[ShL]at hVU;exact lnk_inv17 hVU)
 exact⟨d,u,W3,W4,n2,k,ks,rfl,hk,qbr m4 (show qbn (27:Nat)=31 from by kernel_rfl) (by kernel_rfl),g1,g2⟩
/-! ## The way that is read -/
def qaT (t:Tp3):List St3->List Lk17->List St3×Int
 |path,[]=>(path,0)
 |path,k::r=>
  if k.told=false then([],20)
  else match balF t k.group with
   |none=>([],4)
   |some b=>
    if b.edge=(lastS path).edge then qaT t path r
    else if mayT t (lastS path) ⟨b.edge,k.rev⟩=false then([],141)
    else if metS path [⟨b.edge,k.rev⟩]=true\/path.length=24 then([],2)
    else qaT t (path++[⟨b.edge,k.rev⟩]) r
theorem qeS {t:Tp3}{path:List St3}{k:Lk17}{V U:List Int}(h:LnkSh k V U)(r:List Lk17):
  ((qbL t path V).2≠0->qaT t path (k::r)=([],(qbL t path V).2))/\((qbL t path V).2=0->k.told=true/\V.drop 7=U/\qaT t path (k::r)=qaT t (qbL t path V).1 r):=by
 obtain⟨d,b,o,ra,a,_,⟨c,_,rfl,rfl⟩|⟨rfl,rfl⟩⟩:=h
 ·unfold qbL
  rw[if_neg (show¬((d::1::c::b::o::ra::a::U).getD 1 0≠1)from fun h=>h rfl)];rw[show(d::1::c::b::o::ra::a::U).getD 2 0=c from rfl,show(d::1::c::b::o::ra::a::U).getD 3 0=b from rfl,show(d::1::c::b::o::ra::a::U).getD 4 0=o from rfl];rw[qaT];dsimp only;rw[if_neg (show¬(true=false)from by decide)]
  cases balF t (c*16384+b)with
  |none=>exact⟨fun _=>rfl,fun h=>absurd h (by show¬((4:Int)=0);decide)⟩
  |some x=>
   dsimp only;by_cases h1:x.edge=(lastS path).edge
   ·rw[if_pos h1,if_pos h1]
    exact⟨fun h=>absurd rfl h,fun _=>⟨rfl,rfl,rfl⟩⟩
   ·rw[if_neg h1,if_neg h1]
    by_cases h2:mayT t (lastS path) ⟨x.edge,o==0⟩=false
    ·rw[if_pos h2,if_pos h2]
     exact⟨fun _=>rfl,fun h=>absurd h (by show¬((141:Int)=0);decide)⟩
    ·rw[if_neg h2,if_neg h2]
     by_cases h3:metS path [⟨x.edge,o==0⟩]=true\/path.length=24
     ·rw[if_pos h3,if_pos h3]
      exact⟨fun _=>rfl,fun h=>absurd h (by show¬((2:Int)=0);decide)⟩
     ·rw[if_neg h3,if_neg h3]
      exact⟨fun h=>absurd rfl h,fun _=>⟨rfl,rfl,rfl⟩⟩
 ·unfold qbL
  rw[qaT];dsimp only;rw[if_pos (show(false=false)from rfl),if_pos (show(d::0::b::o::ra::a::U).getD 1 0≠1 from by show(0:Int)≠1;decide)];exact⟨fun _=>rfl,fun h=>absurd h (by show¬((20:Int)=0);decide)⟩
theorem follow_go17 {t:Tp3}{ks:List Lk17}{path:List St3}{V U:List Int}(h:qc4 ks V U):qaT t path ks=linkGo t ks.length path V:=by
 induction ks generalizing path V with
 |nil=>rfl
 |cons k r ih=>
  obtain⟨W,h1,h2⟩:=h;obtain⟨g1,g2⟩:=qeS (t:=t) (path:=path) h1 r;rw[List.length_cons,linkGo];by_cases h0:(qbL t path V).2≠0
  ·rw[if_pos h0,g1 h0]
  ·rw[if_neg h0]
   obtain⟨_,k2,k3⟩:=g2 (by simpa using h0);rw[k2,k3];exact ih h2
theorem qdb {t:Tp3}{path:List St3}{d u n:Int}{k:Lk17}{ks:List Lk17}{R0 R1 U:List Int}(h1:LnkSh k R0 (n::R1))(hn:ks.length=n.toNat)(h2:qc4 ks R1 U):qaT t path (k::ks)=qdN t path (d::u::R0):=by
 obtain⟨g1,g2⟩:=qeS (t:=t) (path:=path) h1 ks;unfold qdN;rw[show(d::u::R0).drop 2=R0 from rfl];by_cases h0:(qbL t path R0).2≠0
 ·rw[if_pos h0,g1 h0]
 ·rw[if_neg h0]
  obtain⟨k1,k2,k3⟩:=g2 (by simpa using h0);rw[k3];obtain⟨_,b,o,ra,a,_,⟨c,_,e,_⟩|⟨_,e⟩⟩:=h1
  ·rw[show(d::u::R0).getD 9 0=n from by rw[e];rfl,show(d::u::R0).drop 10=R1 from by rw[e];rfl,<-hn]
   exact follow_go17 h2
  ·rw[e]at k1
   cases k1
end
section
open Go.RowKit
open Go.Great
def NumR (wb W:World)(g:Nat)(V:List Int):Prop:= ∃(A:Option Addr) (n c:Nat),Has W g 172 #[.slice A n c]/\(∀W',Below wb.heap.size wb W'->SlO inC 1 W' A n c V)/\n<=c/\n<=10000
theorem NumR.under {wb W W':World}{g:Nat}{V:List Int}(h:NumR wb W g V)(hb:Below W.heap.size W W'):NumR wb W' g V:=by
 obtain⟨A,n,c,h1,h2⟩:=h;exact⟨A,n,c,h1.u hb,h2⟩
theorem NumR.grow {wb W W':World}{g:Nat}{V:List Int}{row:Option Nat}(h:NumR wb W g V)(hg:W.grownBy W' row)(hne:some g≠row):NumR wb W' g V:=by
 obtain⟨A,n,c,h1,h2⟩:=h;exact⟨A,n,c,h1.grow hg hne,h2⟩
theorem NumR.lt {wb W:World}{g:Nat}{V:List Int}(h:NumR wb W g V):g<W.heap.size:=by
 obtain⟨A,n,c,h1,h2⟩:=h;exact h1.lt
def qb2 (V:List Int):Int×Int×Int:=
 if V.getD 1 0≠1 then(0,0,20)else if V.getD 2 0<1\/1000<V.getD 2 0\/V.getD 0 0=0 then(0,0,20)else if 32766<V.getD 0 0 then(0,0,7)else(V.getD 0 0,V.getD 2 0,0)
def qeT (V:List Int):Int×Int:=
 let v:=if V.getD 0 0=1 then V.drop 2 else V
 if v.getD 1 0=0 then(0,0)else if 32766<v.getD 2 0 then(0,7)else(v.getD 2 0,0)
theorem qat (x:Int)(U:List Int)(g:Nat)(wb W:World)(h:NumR wb W g (x::U))(hb:Below wb.heap.size wb W)(_hg:wb.heap.size<=g):
  Calls Tryz.prog 124 #[.pointer (some ⟨g,0,none⟩)] W fun r W'=>r= .returned (.int .i64 x)/\NumR wb W' g U/\W.grownBy W' (some g):=by
 obtain⟨A,n,c,h1,h2,h3,h4⟩:=h;have hs:=h2 W hb;have hn:n=U.length+1:=by rw[<-hs.1];rfl
 obtain⟨m,hm⟩:=geZ (U.length);rw[hm]at hn;subst hn;obtain⟨bk,off,hA,d0⟩:=hs.int13 (j:=0) (x:=x) rfl;subst hA;have d0':W.cell? ⟨bk,off,none⟩=some (.int .i64 x):=d0;have e0:W.cell? ⟨g,0,none⟩=some (.slice (some ⟨bk,off,none⟩) (m+1) c):=h1.cell 0;have h5:1<=m+1:=by omega
 have u1:(0:Int)<((m+1:Nat):Int):=by omega
 have hcu: ∀W,(Instr.sliceAt 22 (.slice (some ⟨bk,off,none⟩) (m+1) c) (some (.int .i64 1)) none none).run Tryz.prog W= .ok (.slice (if c=1 then(some ⟨bk,off,none⟩:Option Addr)else(some ⟨bk,off,none⟩:Option Addr).map (·.add (1*1))) (m+1-1) (c-1)) W:=fun W=>qbF (P:=Tryz.prog) 1 22 3 Tryz.underlying22 (by kernel_rfl) (some ⟨bk,off,none⟩) (m+1) c 1 h5 W;have HS:=zq (fun W' (hW:Below wb.heap.size wb W')=>(h2 W' hW).from17 (fun _=>rfl) h3 h5);obtain⟨A2,hA2⟩:=geZ ((if c=1 then(some ⟨bk,off,none⟩:Option Addr)else(some ⟨bk,off,none⟩:Option Addr).map (·.add (1*1))));obtain⟨c2,hc2⟩: ∃m,c-1=m:=⟨_,rfl⟩
 rw[hA2,hc2]at hcu HS;have HC:=zq (show m<=c2/\m<=10000 from by omega);have HG:=zq h1;clear hA2 hc2 h1 h2 h3 h4 h5 hs hm d0 hb;go_enter Tryz.func124,Tryz.ntmps124;go_wp2_with (with_reducible refine qal (o:=⟨none,_,_,_,_,_⟩) rfl 22 _ _ rfl (g) 0 (.slice A2 m c2) rfl rfl 172 #[.slice (some ⟨bk,off,none⟩) (m+1) c] HG.out (Nat.le_of_ble_eq_true rfl) (by kernel_rfl) rfl #[.slice A2 m c2] rfl ?_);go_ret
 exact⟨rfl,⟨A2,m,c2,qab HG.out _,HS.out,HC.out.1,HC.out.2⟩,qaj _ _ _⟩
theorem qbP (V:List Int)(k:Nat)(hk:k<=V.length)(g:Nat)(wb W:World)(h:NumR wb W g V)(hb:Below wb.heap.size wb W)(_hg:wb.heap.size<=g):
  Calls Tryz.prog 125 #[.pointer (some ⟨g,0,none⟩),.int .i64 k] W fun r W'=>r= .returned (.tuple #[])/\NumR wb W' g (V.drop k)/\W.grownBy W' (some g):=by
 obtain⟨A,n,c,h1,h2,h3,h4⟩:=h;have hs:=h2 W hb;have hn:k<=n:=by rw[<-hs.1];exact hk
 have e0:W.cell? ⟨g,0,none⟩=some (.slice A n c):=h1.cell 0;have hcu: ∀W,(Instr.sliceAt 22 (.slice A n c) (some (.int .i64 k)) none none).run Tryz.prog W= .ok (.slice (if c=k then A else A.map (·.add (k*1))) (n-k) (c-k)) W:=fun W=>qbF (P:=Tryz.prog) 1 22 3 Tryz.underlying22 (by kernel_rfl) A n c k hn W;have HS:=zq (fun W' (hW:Below wb.heap.size wb W')=>(h2 W' hW).from17 (fun _=>rfl) h3 hn);obtain⟨A2,hA2⟩:=geZ ((if c=k then A else A.map (·.add (k*1))));obtain⟨c2,hc2⟩: ∃m,c-k=m:=⟨_,rfl⟩
 obtain⟨m,hm⟩:=geZ (n-k);rw[hA2,hc2,hm]at hcu HS;have HC:=zq (show m<=c2/\m<=10000 from by omega);have HG:=zq h1;clear hA2 hc2 h1 h2 h3 h4 hs hm hb hk hn;go_enter Tryz.func125,Tryz.ntmps125;go_wp2_with (with_reducible refine qal (o:=⟨none,_,_,_,_,_⟩) rfl 22 _ _ rfl (g) 0 (.slice A2 m c2) rfl rfl 172 #[.slice A n c] HG.out (Nat.le_of_ble_eq_true rfl) (by kernel_rfl) rfl #[.slice A2 m c2] rfl ?_);go_end0
 exact⟨rfl,⟨A2,m,c2,qab HG.out _,HS.out,HC.out.1,HC.out.2⟩,qaj _ _ _⟩
theorem oprdsec_any (V U:List Int)(hV:SecSh V U)(g:Nat)(wb W:World)(h:NumR wb W g V)(hb:Below wb.heap.size wb W)(hg:wb.heap.size<=g):
  Calls Tryz.prog 126 #[(.func (.func 124) #[.pointer (some ⟨g,0,none⟩)] #[])] W fun r W'=>r= .returned (.tuple #[.int .i64 (qb2 V).1,.int .i64 (qb2 V).2.1,.int .i64 (qb2 V).2.2])/\((qb2 V).2.2=0->NumR wb W' g U)/\W.grownBy W' (some g):=by
 obtain⟨x,q,hx,hV⟩:=hV;obtain⟨R,hR⟩:=geZ (qb2 V);rw[hR];have HR:=zq hR;have HN0:=zq h;have HB0:=zq hb;have HG:=zq hg;clear hR h hb hg
 rcases hV with⟨rfl,rfl⟩|⟨rfl,a,b,ha,rfl⟩
 ·have HF:=zq (show R=(0,0,20)from by rw[<-HR.out];exact if_pos (by simp))
  clear HR hx;go_enter Tryz.func126,Tryz.ntmps126;go_wp2_with fail;refine(qat x (0::U) g wb W HN0.out HB0.out HG.out).mono ?_;rintro e_ w1 ⟨rfl,hn_,hg_⟩;have HN1:=zq hn_;have HW1:=zq (hg_);have HB1:=zq (qan HB0.out hg_ HB0.out.size HG.out);clear hn_ hg_;go_wp2_with fail;refine(qat 0 U g wb w1 HN1.out HB1.out HG.out).mono ?_;rintro e_ w2 ⟨rfl,hn_,hg_⟩;have HN2:=zq hn_;have HW2:=zq (qap HW1.out hg_);have HB2:=zq (qan HB1.out hg_ HB1.out.size HG.out);clear hn_ hg_;go_wp2;go_ret3
  exact⟨by rw[HF.out];rfl,fun h_=>by rw[HF.out]at h_;exact absurd h_ (by decide),HW2.out⟩
 ·have HRR:=zq (show(if a<1\/1000<a\/x=0 then((0,0,20):Int×Int×Int)else if 32766<x then(0,0,7)else(x,a,0))=R from HR.out)
  have HT:=zq (fun W=>qft a W);clear HR;go_enter Tryz.func126,Tryz.ntmps126;go_wp2_with fail;refine(qat x (1::a::b::U) g wb W HN0.out HB0.out HG.out).mono ?_;rintro e_ w1 ⟨rfl,hn_,hg_⟩;have HN1:=zq hn_;have HW1:=zq (hg_);have HB1:=zq (qan HB0.out hg_ HB0.out.size HG.out);clear hn_ hg_;go_wp2_with fail;refine(qat 1 (a::b::U) g wb w1 HN1.out HB1.out HG.out).mono ?_;rintro e_ w2 ⟨rfl,hn_,hg_⟩;have HN2:=zq hn_;have HW2:=zq (qap HW1.out hg_);have HB2:=zq (qan HB1.out hg_ HB1.out.size HG.out);clear hn_ hg_;go_wp2_with fail;refine(qat a (b::U) g wb w2 HN2.out HB2.out HG.out).mono ?_;rintro e_ w3 ⟨rfl,hn_,hg_⟩;have HN3:=zq hn_;have HW3:=zq (qap HW2.out hg_);have HB3:=zq (qan HB2.out hg_ HB2.out.size HG.out);clear hn_ hg_;go_wp2_with fail;refine(qat b U g wb w3 HN3.out HB3.out HG.out).mono ?_;rintro e_ w4 ⟨rfl,hn_,hg_⟩;have HN4:=zq hn_;have HW4:=zq (qap HW3.out hg_);have HB4:=zq (qan HB3.out hg_ HB3.out.size HG.out);clear hn_ hg_;obtain⟨tb,htb⟩: ∃q,(decide (1<=a) &&decide (a<=1000))=q:=⟨_,rfl⟩
  rw[htb]at HT;go_wp2_with fail;refine(HT.out w4).mono ?_;rintro e_ w4' ⟨rfl,rfl⟩
  cases tb with
  |false=>
   have HF:=zq (show R=(0,0,20)from by rw[<-HRR.out];refine if_pos ?_;simp only[Bool.and_eq_false_iff,decide_eq_false_iff_not]at htb;omega);clear htb;go_wp2;go_ret3
   exact⟨by rw[HF.out];rfl,fun h_=>by rw[HF.out]at h_;exact absurd h_ (by decide),HW4.out⟩
  |true=>
   by_cases z:x=0
   ·have z1:(x==0)=true:=by simp[z]
    have HF:=zq (show R=(0,0,20)from by rw[<-HRR.out];exact if_pos (Or.inr (Or.inr z)));clear htb z;go_wp2;go_ret3
    exact⟨by rw[HF.out];rfl,fun h_=>by rw[HF.out]at h_;exact absurd h_ (by decide),HW4.out⟩
   ·have z1:(x==0)=false:=by simp[z]
    have hne: ¬(a<1\/1000<a\/x=0):=by simp only[Bool.and_eq_true,decide_eq_true_eq]at htb;omega
    by_cases z2:32766<x
    ·have z3:decide (32766<x)=true:=decide_eq_true z2
     have HF:=zq (show R=(0,0,7)from by rw[<-HRR.out,if_neg hne,if_pos z2]);clear htb z hne;go_wp2;go_ret3
     exact⟨by rw[HF.out];rfl,fun h_=>by rw[HF.out]at h_;exact absurd h_ (by decide),HW4.out⟩
    ·have z3:decide (32766<x)=false:=decide_eq_false z2
     have HF:=zq (show R=(x,a,0)from by rw[<-HRR.out,if_neg hne,if_neg z2]);clear htb z hne;go_wp2;go_ret3
     exact⟨by rw[HF.out];rfl,fun _=>HN4.out,HW4.out⟩
theorem oprdgap_any (V:List Int)(hV:GapSh V)(g:Nat)(wb W:World)(h:NumR wb W g V)(hb:Below wb.heap.size wb W)(hg:wb.heap.size<=g):
  Calls Tryz.prog 127 #[.pointer (some ⟨g,0,none⟩)] W fun r W'=>r= .returned (.tuple #[.int .i64 (qeT V).1,.int .i64 (qeT V).2])/\W.grownBy W' (some g):=by
 obtain⟨q,p,S,hp,hV,hS⟩:=hV;obtain⟨R,hR⟩:=geZ (qeT V);rw[hR];have HR:=zq hR;have HN0:=zq h;have HB0:=zq hb;have HG:=zq hg;clear hR h hb hg
 rcases hV with⟨rfl,rfl⟩|⟨rfl,a,b,rfl⟩
 ·have HRR:=zq (show(if p=0 then((0,0):Int×Int)else if 32766<S.getD 0 0 then(0,7)else(S.getD 0 0,0))=R from HR.out)
  clear HR;go_enter Tryz.func127,Tryz.ntmps127;go_wp2_with fail;refine(qat 0 (p::S) g wb W HN0.out HB0.out HG.out).mono ?_;rintro e_ w1 ⟨rfl,hn_,hg_⟩;have HN1:=zq hn_;have HW1:=zq (hg_);have HB1:=zq (qan HB0.out hg_ HB0.out.size HG.out);clear hn_ hg_;by_cases z:p=0
  ·subst z
   have HF:=zq (show R=(0,0)from HRR.out.symm.trans (if_pos rfl));clear HRR hS hp;go_wp2_with fail;refine(qat 0 S g wb w1 HN1.out HB1.out HG.out).mono ?_;rintro e_ wx ⟨rfl,hn_,hg_⟩;have HN2:=zq hn_;have HW2:=zq (qap HW1.out hg_);have HB2:=zq (qan HB1.out hg_ HB1.out.size HG.out);clear hn_ hg_;go_wp2;go_ret2
   exact⟨by rw[HF.out];rfl,HW2.out⟩
  ·obtain rfl:p=1:=by omega
   obtain⟨gp,zz,S2,hgp,rfl⟩:=hS rfl;have HRR:=zq (show(if 32766<gp then((0,7):Int×Int)else(gp,0))=R from HRR.out);clear hS hp z;go_wp2_with fail;refine(qat 1 (gp::zz::S2) g wb w1 HN1.out HB1.out HG.out).mono ?_;rintro e_ wx ⟨rfl,hn_,hg_⟩;have HN2:=zq hn_;have HW2:=zq (qap HW1.out hg_);have HB2:=zq (qan HB1.out hg_ HB1.out.size HG.out);clear hn_ hg_;go_wp2_with fail;refine(qat gp (zz::S2) g wb wx HN2.out HB2.out HG.out).mono ?_;rintro e_ wy ⟨rfl,hn_,hg_⟩;have HN3:=zq hn_;have HW3:=zq (qap HW2.out hg_);have HB3:=zq (qan HB2.out hg_ HB2.out.size HG.out);clear hn_ hg_;by_cases z2:32766<gp
   ·have z3:decide (32766<gp)=true:=decide_eq_true z2
    have HF:=zq (HRR.out.symm.trans (if_pos z2));clear HRR;go_wp2;go_ret2
    exact⟨by rw[HF.out];rfl,HW3.out⟩
   ·have z3:decide (32766<gp)=false:=decide_eq_false z2
    have HF:=zq (HRR.out.symm.trans (if_neg z2));clear HRR;go_wp2;go_ret2
    exact⟨by rw[HF.out];rfl,HW3.out⟩
 ·have HRR:=zq (show(if p=0 then((0,0):Int×Int)else if 32766<S.getD 0 0 then(0,7)else(S.getD 0 0,0))=R from HR.out)
  clear HR;go_enter Tryz.func127,Tryz.ntmps127;go_wp2_with fail;refine(qat 1 (a::b::p::S) g wb W HN0.out HB0.out HG.out).mono ?_;rintro e_ w1 ⟨rfl,hn_,hg_⟩;have HN1:=zq hn_;have HW1:=zq (hg_);have HB1:=zq (qan HB0.out hg_ HB0.out.size HG.out);clear hn_ hg_;go_wp2_with fail;refine(qbP (a::b::p::S) 2 (by simp) g wb w1 HN1.out HB1.out HG.out).mono ?_;rintro e_ w2 ⟨rfl,hn_,hg_⟩;have HN2:=zq (show NumR wb w2 g (p::S)from hn_);have HW2:=zq (qap HW1.out hg_);have HB2:=zq (qan HB1.out hg_ HB1.out.size HG.out);clear hn_ hg_;by_cases z:p=0
  ·subst z
   have HF:=zq (show R=(0,0)from HRR.out.symm.trans (if_pos rfl));clear HRR hS hp;go_wp2_with fail;refine(qat 0 S g wb w2 HN2.out HB2.out HG.out).mono ?_;rintro e_ wx ⟨rfl,hn_,hg_⟩;have HN3:=zq hn_;have HW3:=zq (qap HW2.out hg_);have HB3:=zq (qan HB2.out hg_ HB2.out.size HG.out);clear hn_ hg_;go_wp2;go_ret2
   exact⟨by rw[HF.out];rfl,HW3.out⟩
  ·obtain rfl:p=1:=by omega
   obtain⟨gp,zz,S2,hgp,rfl⟩:=hS rfl;have HRR:=zq (show(if 32766<gp then((0,7):Int×Int)else(gp,0))=R from HRR.out);clear hS hp z;go_wp2_with fail;refine(qat 1 (gp::zz::S2) g wb w2 HN2.out HB2.out HG.out).mono ?_;rintro e_ wx ⟨rfl,hn_,hg_⟩;have HN3:=zq hn_;have HW3:=zq (qap HW2.out hg_);have HB3:=zq (qan HB2.out hg_ HB2.out.size HG.out);clear hn_ hg_;go_wp2_with fail;refine(qat gp (zz::S2) g wb wx HN3.out HB3.out HG.out).mono ?_;rintro e_ wy ⟨rfl,hn_,hg_⟩;have HN4:=zq hn_;have HW4:=zq (qap HW3.out hg_);have HB4:=zq (qan HB3.out hg_ HB3.out.size HG.out);clear hn_ hg_;by_cases z2:32766<gp
   ·have z3:decide (32766<gp)=true:=decide_eq_true z2
    have HF:=zq (HRR.out.symm.trans (if_pos z2));clear HRR;go_wp2;go_ret2
    exact⟨by rw[HF.out];rfl,HW4.out⟩
   ·have z3:decide (32766<gp)=false:=decide_eq_false z2
    have HF:=zq (HRR.out.symm.trans (if_neg z2));clear HRR;go_wp2;go_ret2
    exact⟨by rw[HF.out];rfl,HW4.out⟩
end
end Go.Proofs.YtahadmeilajdgaaGreatDoor
