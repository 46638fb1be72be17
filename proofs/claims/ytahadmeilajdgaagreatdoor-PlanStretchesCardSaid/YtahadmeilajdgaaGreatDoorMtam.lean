/-
  Our own text, joined.
-/
import Derived.Test.YtahadmeilajdgaaGreatDoorMtal
import Derived.Test.YtahadmeilajdgaaGreatDoorMtaa
import Derived.Test.YtahadmeilajdgaaGreatDoorMtab
import Derived.BigQuiet
import Derived.IntWalk
namespace Go.Proofs.YtahadmeilajdgaaGreatDoor
set_option maxRecDepth 100000
set_option maxHeartbeats 80000000
section
open Go.RowKit
open BitsM
def adv (s:WS)(D:List (Int×Int))(R:List Int):WS:= {s with V:=R,out:=s.out++D,got:=s.got++D.map Prod.fst}
def advB (s:WS)(D:List (Int×Int))(R:List Bool):WS:= {s with bits:=R,out:=s.out++D,got:=s.got++D.map Prod.fst}
structure Pk (f:WS->Int×WS) (last:Int) (D:List (Int×Int)):Prop where
 fit: ∀x∈D,FitP x
 items: ∀s R,s.rd=false->s.e=0->s.V=D.map Prod.fst++R->f s=(last,adv s D R)
 get: ∀s R,s.rd=true->s.e=0->s.bits=qaA D++R->f s=(last,advB s D R)
 cut: ∀s,s.rd=true->s.e=0->s.bits.length<(qaA D).length->s.bits=(qaA D).take s.bits.length->(f s).2.e=10
theorem qbI (a b:List (Int×Int)):qaA (a++b)=qaA a++qaA b:=by simp[qaA]
theorem qdU (x:Int×Int):qaA [x]=wbits x.1.toNat x.2.toNat x.2.toNat:=by simp[qaA]
theorem may_fit (v:Nat)(hv:v<96)(n:Int)(h:mayOf v n=true):0<=n/\n<2^qak v:=by
 have h1:=List.all_eq_true.1 (show(List.range 96).all (fun v=>decide (qbu (v:Int)<2^qak (v:Int)) &&decide (qbe (v:Int)<2^qak (v:Int)))=true from by kernel_rfl) v (List.mem_range.2 hv);simp only[Bool.and_eq_true,decide_eq_true_eq]at h1;unfold mayOf at h;simp only[Bool.and_eq_true,Bool.or_eq_true,decide_eq_true_eq]at h;omega
theorem fit_may (v:Nat)(hv:v<96)(n:Int)(h:mayOf v n=true):FitP (n,(qak v:Int)):=by
 have h1:=may_fit v hv n h;have h2:=width_one v (by omega) (by omega);have h3:(2:Int)^qak v<=2^32:=by
  have:(2:Nat)^qak v<=2^32:=Nat.pow_le_pow_right (by omega) h2.2
  exact_mod_cast this
 exact⟨h1.1,by omega,by simp only;omega,by simp only;omega⟩
theorem pk_v (v:Nat)(hv:v<96)(h5:v≠5)(h7:v≠7)(n:Int)(h:mayOf v n=true):Pk (fun s=>oneS v s) n [(n,(qak v:Int))]:=by
 have hf:=may_fit v hv n h;have hl:qaA [(n,(qak v:Int))]=wbits n.toNat (qak v) (qak v):=by rw[qdU];simp
 have hlen:(qaA [(n,(qak v:Int))]).length=qak v:=by rw[hl,qaJ]
 have hnum:(num (wbits n.toNat (qak v) (qak v)):Int)=n:=by
  rw[num_wbits _ _ (by
   have e:((n.toNat:Nat):Int)<((2^qak v:Nat):Int):=by rw[Int.toNat_of_nonneg hf.1];exact_mod_cast hf.2
   exact_mod_cast e)]
  exact Int.toNat_of_nonneg hf.1
 have k5: ¬((v:Int)=5):=by omega
 have k7: ¬((v:Int)=7):=by omega
 have hkeep: ∀s,keep v n s= {s with got:=s.got++[n],out:=s.out++[(n,(qak v:Int))]} :=fun s=>by rw[keep,if_neg k7,if_neg k5]
 refine⟨?_,?_,?_,?_⟩
 ·intro x hx
  simp only[List.mem_singleton]at hx;subst hx;exact fit_may v hv n h
 ·intro s R hrd he hV
  have hV':s.V=n::R:=by simpa using hV
  have hfe:fetch v s=(n, {s with V:=R}):=by
   rw[fetch,hrd,if_neg (by decide),if_neg k7,hV',if_neg (by simp)];rfl
  show oneS v s=_
  rw[oneS,if_neg (by omega),hfe,if_neg (by simp only;omega),if_neg (by simp only[h];decide),hkeep]
  rfl
 ·intro s R hrd he hb
  rw[hl]at hb;have hfe:fetch v s=(n, {s with bits:=R}):=by
   have e1:s.bits.take (qak v)=wbits n.toNat (qak v) (qak v):=by rw[hb];exact List.take_left' (qaJ _ _ _)
   have e2:s.bits.drop (qak v)=R:=by rw[hb];exact List.drop_left' (qaJ _ _ _)
   rw[fetch,hrd,if_pos rfl,if_neg (by rw[hb,List.length_append,qaJ];omega),e1,e2,hnum]
  show oneS v s=_
  rw[oneS,if_neg (by omega),hfe,if_neg (by simp only;omega),if_neg (by simp only[h];decide),hkeep]
  rfl
 ·intro s hrd he hlt _
  rw[hlen]at hlt;have hfe:fetch v s=(0, {s with e:=10}):=by rw[fetch,hrd,if_pos rfl,if_pos hlt]
  show(oneS v s).2.e=10
  rw[oneS,if_neg (by omega),hfe,if_pos (by simp only;omega)]
theorem pk_nil (last:Int):Pk (fun s=>(last,s)) last []:=by
 refine⟨fun x h=>(by cases h),?_,?_,?_⟩
 ·intro s R _ _ hV
  have e:s.V=R:=by simpa using hV
  rw[adv,<-e];simp
 ·intro s R _ _ hb
  have e:s.bits=R:=by simpa[qaA]using hb
  rw[advB,<-e];simp
 ·intro s _ _ h _
  simp[qaA]at h
theorem pk_then {f g:WS->Int×WS}{l1 l2:Int}{D1 D2:List (Int×Int)}(h:WS->Int×WS)(hh: ∀s,s.e=0->(f s).1=l1->h s=g (f s).2)(hc: ∀s,s.e=0->(f s).2.e≠0->(h s).2=(f s).2)(p1:Pk f l1 D1)(p2:Pk g l2 D2):Pk h l2 (D1++D2):=by
 refine⟨?_,?_,?_,?_⟩
 ·intro x hx
  rw[List.mem_append]at hx;exact hx.elim (p1.fit x) (p2.fit x)
 ·intro s R hrd he hV
  rw[List.map_append,List.append_assoc]at hV;have e1:=p1.items s _ hrd he hV;rw[hh s he (by rw[e1]),e1];show g (adv s D1 (D2.map Prod.fst++R))=_
  rw[p2.items (adv s D1 (D2.map Prod.fst++R)) R hrd he rfl];simp[adv,List.append_assoc]
 ·intro s R hrd he hb
  rw[qbI,List.append_assoc]at hb;have e1:=p1.get s _ hrd he hb;rw[hh s he (by rw[e1]),e1];show g (advB s D1 (qaA D2++R))=_
  rw[p2.get (advB s D1 (qaA D2++R)) R hrd he rfl];simp[advB,List.append_assoc]
 ·intro s hrd he hlt hb
  rw[qbI]at hlt hb;rw[List.length_append]at hlt;by_cases h1:s.bits.length<(qaA D1).length
  ·have hb1:s.bits=(qaA D1).take s.bits.length:=by
    rw[List.take_append_of_le_length (by omega)]at hb;exact hb
   have he1:=p1.cut s hrd he h1 hb1;rw[hc s he (by rw[he1];decide)];exact he1
  ·have hb1:s.bits=qaA D1++(qaA D2).take (s.bits.length-(qaA D1).length):=by
    rw[List.take_append,List.take_of_length_le (by omega)]at hb;exact hb
   have hl:((qaA D2).take (s.bits.length-(qaA D1).length)).length=s.bits.length-(qaA D1).length:=by
    rw[List.length_take];omega
   have e1:=p1.get s _ hrd he hb1;rw[hh s he (by rw[e1]),e1];exact p2.cut (advB s D1 _) hrd he (by show((qaA D2).take _).length<_;rw[hl];omega) (by
    show(qaA D2).take _=(qaA D2).take ((qaA D2).take _).length
    rw[hl])
theorem qct (b:List Nd)(last:Int){s:WS}(h:s.e≠0):runL b last s=s:=by
 cases b with
 |nil=>rfl
 |cons x l=>rw[runL,if_pos h]
theorem qe0 (f:WS->WS)(m:Nat){s:WS}(h:s.e≠0):repS f m s=s:=by
 cases m with
 |zero=>rfl
 |succ m=>rw[repS,if_pos h]
mutual
def plainN:Nd->Bool
 | .v n=>decide (n<96) &&decide (n≠5) &&decide (n≠7)
 | .g _ b=>qgx b
def qgx:List Nd->Bool
 |[]=>true
 |x::l=>plainN x &&qgx l
end
def Took (s:WS)(D:List (Int×Int)):Prop:=(s.rd=false-> ∃R,s.V=D.map Prod.fst++R)/\(s.rd=true-> ∃R,s.bits=qaA D++R)
theorem took_then {f:WS->Int×WS}{l:Int}{s:WS}{D1 D2:List (Int×Int)}(p:Pk f l D1)(he:s.e=0)(h1:Took s D1)(h2:Took (f s).2 D2):Took s (D1++D2):=by
 constructor
 ·intro hrd
  obtain⟨R,hR⟩:=h1.1 hrd;have e:=p.items s R hrd he hR;rw[e]at h2;obtain⟨R2,hR2⟩:=h2.1 hrd;exact⟨R2,by rw[hR,show R=_ from hR2,List.map_append,List.append_assoc]⟩
 ·intro hrd
  obtain⟨R,hR⟩:=h1.2 hrd;have e:=p.get s R hrd he hR;rw[e]at h2;obtain⟨R2,hR2⟩:=h2.2 hrd;exact⟨R2,by rw[hR,show R=_ from hR2,qbI,List.append_assoc]⟩
theorem took_nil (s:WS):Took s []:=⟨fun _=>⟨s.V,rfl⟩,fun _=>⟨s.bits,rfl⟩⟩
theorem took_e {f:WS->Int×WS}{l:Int}{s:WS}{D:List (Int×Int)}(p:Pk f l D)(he:s.e=0)(h:Took s D):(f s).2.e=0/\(f s).1=l:=by
 cases hrd:s.rd
 ·obtain⟨R,hR⟩:=h.1 hrd
  rw[p.items s R hrd he hR];exact⟨he,rfl⟩
 ·obtain⟨R,hR⟩:=h.2 hrd
  rw[p.get s R hrd he hR];exact⟨he,rfl⟩
theorem one_took (v:Nat)(_hv:v<96)(_h5:v≠5)(h7:v≠7)(s:WS)(he:s.e=0)(h:(oneS v s).2.e=0): ∃n,mayOf v n=true/\(oneS v s).1=n/\Took s [(n,(qak v:Int))]:=by
 have k7: ¬((v:Int)=7):=by omega
 rw[oneS,if_neg (by omega)]at h⊢;by_cases hf:(fetch v s).2.e≠0
 ·rw[if_pos hf]at h;exact absurd h hf
 ·rw[if_neg hf]at h⊢
  by_cases hm:mayOf v (fetch v s).1=false
  ·rw[if_pos hm]at h;exact absurd (show(20:Int)=0 from h) (by decide)
  ·rw[if_neg hm]at h⊢
   have hm':mayOf v (fetch v s).1=true:=by simpa using hm
   refine⟨_,hm',rfl,?_,?_⟩
   ·intro hrd
    have e0:fetch v s=if s.V=[]then(0, {s with e:=20})else(s.V.headD 0, {s with V:=s.V.tail}):=by rw[fetch,hrd,if_neg (by decide),if_neg k7]
    rw[e0]at hf⊢;by_cases hV:s.V=[]
    ·rw[if_pos hV]at hf;exact absurd (show(20:Int)≠0 by decide) hf
    ·rw[if_neg hV]
     cases hc:s.V with
     |nil=>exact absurd hc hV
     |cons a r=>exact⟨r,rfl⟩
   ·intro hrd
    have e0:fetch v s=if s.bits.length<qak v then(0, {s with e:=10})else(((num (s.bits.take (qak v)):Nat):Int), {s with bits:=s.bits.drop (qak v)}):=by rw[fetch,hrd,if_pos rfl]
    rw[e0]at hf⊢;by_cases hb:s.bits.length<qak v
    ·rw[if_pos hb]at hf;exact absurd (show(10:Int)≠0 by decide) hf
    ·rw[if_neg hb]
     refine⟨s.bits.drop (qak v),?_⟩;rw[qdU];simp only[Int.toNat_natCast];have hlen:(s.bits.take (qak v)).length=qak v:=by rw[List.length_take];omega
     have hw:wbits (num (s.bits.take (qak v))) (qak v) (qak v)=s.bits.take (qak v):=by
      apply List.ext_getElem (by rw[qaJ,hlen])
      intro i h1 h2;have g1:=qez (num (s.bits.take (qak v))) (qak v) (qak v) i (by rw[qaJ]at h1;exact h1);have hi:i<qak v:=by rw[qaJ]at h1;exact h1
      rw[qdG,hlen,decide_eq_true (by omega),Bool.true_and,show qak v-1-(qak v-1-i)=i by omega]at g1
      simpa[List.getD_eq_getElem?_getD,List.getElem?_eq_getElem h1,List.getElem?_eq_getElem h2]using g1
     rw[hw,List.take_append_drop]
theorem rep_took (b:List Nd)(hL: ∀(last:Int) (s:WS),s.e=0->(runL b last s).e=0-> ∃D,Pk (fun s=>(0,runL b last s)) 0 D/\Took s D):
  ∀(m:Nat) (s:WS),s.e=0->(repS (fun s=>runL b 0 s) m s).e=0-> ∃D,Pk (fun s=>(0,repS (fun s=>runL b 0 s) m s)) 0 D/\Took s D
 |0,s,_,_=>⟨[],pk_nil 0,took_nil s⟩
 |m+1,s,he,h=>by
  rw[repS,if_neg (by omega)]at h;have h1:(runL b 0 s).e=0:=by
   by_cases k:(runL b 0 s).e=0
   ·exact k
   ·rw[qe0 _ _ k]at h;exact h
  obtain⟨D1,p1,t1⟩:=hL 0 s he h1;obtain⟨D2,p2,t2⟩:=rep_took b hL m _ h1 h;exact⟨D1++D2,pk_then (f:=fun s=>(0,runL b 0 s)) (g:=fun s=>(0,repS (fun s=>runL b 0 s) m s)) _ (fun s hs _=>by rw[repS,if_neg (by omega)]) (fun s hs h2=>by show repS _ (m+1) s=_;rw[repS,if_neg (by omega)];exact qe0 _ _ h2) p1 p2,took_then p1 he t1 t2⟩
theorem qe2: ∀(N:Nat) (b:List Nd),szL b<N->qgx b=true-> ∀(last:Int) (s:WS),s.e=0->(runL b last s).e=0-> ∃D,Pk (fun s=>(0,runL b last s)) 0 D/\Took s D
 |0,_,h,_,_,_,_,_=>by omega
 |N+1,[],_,_,last,s,_,_=>⟨[],pk_nil 0,took_nil s⟩
 |N+1,x::l,hN,hp,last,s,he,h=>by
  rw[qgx,Bool.and_eq_true]at hp;rw[runL,if_neg (by omega)]at h;have h1:(runN x last s).2.e=0:=by
   by_cases k:(runN x last s).2.e=0
   ·exact k
   ·rw[qct _ _ k]at h;exact h
  have hx: ∃l1 D1,Pk (fun s=>runN x last s) l1 D1/\Took s D1:=by
   cases x with
   |v n=>
    have hq:=hp.1;rw[plainN,Bool.and_eq_true,Bool.and_eq_true,decide_eq_true_eq,decide_eq_true_eq,decide_eq_true_eq]at hq;obtain⟨k,hm,_,ht⟩:=one_took n hq.1.1 hq.1.2 hq.2 s he h1;exact⟨k,_,pk_v n hq.1.1 hq.1.2 hq.2 k hm,ht⟩
   |g k b=>
    obtain⟨D,pd,td⟩:=rep_took b (fun last s he h=>qe2 N b (by have:szL (Nd.g k b::l)=szL b+1+szL l\/True:= .inr trivial;simp only[szL,szN]at hN;omega) hp.1 last s he h) (many k last) s he h1;refine⟨last,D,⟨pd.fit,?_,?_,?_⟩,td⟩
    ·intro s R a1 a2 a3
     have:=pd.items s R a1 a2 a3;simp only[Prod.mk.injEq]at this;show(last,repS _ _ _)=_
     rw[this.2]
    ·intro s R a1 a2 a3
     have:=pd.get s R a1 a2 a3;simp only[Prod.mk.injEq]at this;show(last,repS _ _ _)=_
     rw[this.2]
    ·intro s a1 a2 a3 a4
     exact pd.cut s a1 a2 a3 a4
  obtain⟨l1,D1,p1,t1⟩:=hx;have hl1:=(took_e p1 he t1).2;rw[hl1]at h;have hz:0<szN x:=by
   cases x<;>simp only[szN]<;>omega
  obtain⟨D2,p2,t2⟩:=qe2 N l (by simp only[szL]at hN;omega) hp.2 l1 _ h1 h;refine⟨D1++D2,pk_then (f:=fun s=>runN x last s) (g:=fun s=>(0,runL l l1 s)) _ ?_ ?_ p1 p2,took_then p1 he t1 t2⟩
  ·intro s hs h2
   have h3:(runN x last s).1=l1:=h2;rw[runL,if_neg (by omega),h3]
  ·intro s hs h2
   show runL (x::l) last s=_
   rw[runL,if_neg (by omega)];exact qct _ _ h2
end
section
open Go.RowKit
open BitsM
theorem qfn {id:Int}(h:qcg id=true):id=0\/id=1\/id=3\/id=5\/id=11\/id=15\/id=21\/id=27\/id=42\/id=57\/id=58\/id=80:=by
 unfold qcg at h;simp only[Bool.or_eq_true,decide_eq_true_eq]at h;omega
structure Shape (id:Int) (pre:List Nd) (a:Nat) (post:List Nd):Prop where
 ast:astOf id=pre++ .v 7:: .v a::post
 pre:pre=[]\/pre=[.v 6]
 plain:qgx (.v a::post)=true
 words:qbZ (gramOf id)=qcl (astOf id)
 size:(gramOf id).size<=65536
 good:goodL (astOf id)=true
 seven:c7 (astOf id)=1
 may:mayOf 5 id=true
theorem shape_of {id:Int}(h:qcg id=true): ∃pre a post,Shape id pre a post:=by
 rcases qfn h with rfl|rfl|rfl|rfl|rfl|rfl|rfl|rfl|rfl|rfl|rfl|rfl
 ·exact⟨[],8,[.v 4,.v 13,.v 14,.v 15,.v 16,.v 17,.v 18,.g 2 [.v 19],.v 20,.v 21,.v 22,.v 23,.g 1 [.v 24]],rfl,.inl rfl,by kernel_rfl,words0,Nat.le_of_ble_eq_true (by kernel_rfl),by kernel_rfl,by kernel_rfl,by kernel_rfl⟩
 ·exact⟨[],8,[.v 4,.v 74,.v 13,.v 14,.v 15,.v 16,.v 17,.v 18,.g 2 [.v 19],.v 20,.v 21,.v 22,.v 23,.g 1 [.v 24]],rfl,.inl rfl,by kernel_rfl,words1,Nat.le_of_ble_eq_true (by kernel_rfl),by kernel_rfl,by kernel_rfl,by kernel_rfl⟩
 ·exact⟨[.v 6],8,[.v 84,.v 27,.g 0 [.v 10],.v 85,.v 87,.v 86],rfl,.inr rfl,by kernel_rfl,words3,Nat.le_of_ble_eq_true (by kernel_rfl),by kernel_rfl,by kernel_rfl,by kernel_rfl⟩
 ·exact⟨[.v 6],8,[.v 44,.v 12,.g 1 [.v 10],.v 11,.v 45,.v 46,.v 47,.v 27,.g 0 [.v 44,.v 12,.g 1 [.v 10],.v 11,.v 45,.v 46,.v 47]],rfl,.inr rfl,by kernel_rfl,words5,Nat.le_of_ble_eq_true (by kernel_rfl),by kernel_rfl,by kernel_rfl,by kernel_rfl⟩
 ·exact⟨[],75,[.v 76,.v 77,.v 78,.v 79,.v 80,.v 81,.v 27,.g 0 [.v 82],.v 27,.g 0 [.v 83]],rfl,.inl rfl,by kernel_rfl,words11,Nat.le_of_ble_eq_true (by kernel_rfl),by kernel_rfl,by kernel_rfl,by kernel_rfl⟩
 ·exact⟨[.v 6],8,[.v 25,.v 26,.v 27,.g 0 [.v 28,.v 29,.g 1 [.v 30,.v 31]],.v 32,.v 29,.g 1 [.v 30,.v 31],.v 33,.g 1 [.v 34,.v 35],.v 36,.g 1 [.v 37,.v 38],.v 39,.g 1 [.v 40,.v 41,.v 42,.v 43]],rfl,.inr rfl,by kernel_rfl,words15,Nat.le_of_ble_eq_true (by kernel_rfl),by kernel_rfl,by kernel_rfl,by kernel_rfl⟩
 ·exact⟨[.v 6],8,[.v 48,.v 49,.v 50,.v 27,.g 0 [.v 48,.v 49,.v 50]],rfl,.inr rfl,by kernel_rfl,words21,Nat.le_of_ble_eq_true (by kernel_rfl),by kernel_rfl,by kernel_rfl,by kernel_rfl⟩
 ·exact⟨[.v 6],8,[.v 51,.v 52,.v 53,.v 27,.g 0 [.v 54,.v 55],.v 27,.g 0 [.v 51,.v 52,.v 53,.v 27,.g 0 [.v 54,.v 55]]],rfl,.inr rfl,by kernel_rfl,words27,Nat.le_of_ble_eq_true (by kernel_rfl),by kernel_rfl,by kernel_rfl,by kernel_rfl⟩
 ·exact⟨[.v 6],62,[.v 10,.v 63,.v 64,.v 64,.v 65],rfl,.inr rfl,by kernel_rfl,words42,Nat.le_of_ble_eq_true (by kernel_rfl),by kernel_rfl,by kernel_rfl,by kernel_rfl⟩
 ·exact⟨[.v 6],66,[.v 67,.v 68],rfl,.inr rfl,by kernel_rfl,words57,Nat.le_of_ble_eq_true (by kernel_rfl),by kernel_rfl,by kernel_rfl,by kernel_rfl⟩
 ·exact⟨[.v 6],8,[.v 69,.v 70,.v 71,.v 27,.g 0 [.v 72,.v 73]],rfl,.inr rfl,by kernel_rfl,words58,Nat.le_of_ble_eq_true (by kernel_rfl),by kernel_rfl,by kernel_rfl,by kernel_rfl⟩
 ·exact⟨[.v 6],8,[.v 56,.v 57,.v 58,.v 59,.v 60,.v 61,.v 27,.g 0 [.v 56,.v 57,.v 58,.v 59,.v 60,.v 61]],rfl,.inr rfl,by kernel_rfl,words80,Nat.le_of_ble_eq_true (by kernel_rfl),by kernel_rfl,by kernel_rfl,by kernel_rfl⟩
theorem w7:qak 7=13:=by kernel_rfl
theorem w5:qak 5=8:=by kernel_rfl
theorem may70:mayOf 7 0=true:=by kernel_rfl
theorem run_last (a:Nat)(l:List Nd)(last:Int)(s:WS):runL (.v a::l) last s=runL (.v a::l) 0 s:=by
 rw[runL,runL,runN,runN]
theorem qfM {s:WS}(hrd:s.rd=false)(he:s.e=0):oneS 7 s=(0, {s with place:=s.out.length,out:=s.out++[(0,13)]}):=by
 have hf:fetch 7 s=(0,s):=by rw[fetch,hrd,if_neg (by decide),if_pos rfl]
 rw[oneS,if_neg (by omega),hf,if_neg (by simp only;omega),if_neg (by simp only[may70];decide),keep,if_pos rfl,w7];rfl
theorem qfL {s:WS}{n:Int}{R:List Bool}(hrd:s.rd=true)(he:s.e=0)(hm:mayOf 7 n=true)(hb:s.bits=qaA [(n,13)]++R):oneS 7 s=(n, {s with bits:=R,place:=s.out.length,out:=s.out++[(n,13)]}):=by
 have hn:=may_fit 7 (by decide) n hm;rw[show qak ((7:Nat):Int)=13 from w7]at hn;have hl:qaA [(n,13)]=wbits n.toNat 13 13:=by rw[qdU];rfl
 rw[hl]at hb;have hnum:(num (wbits n.toNat 13 13):Int)=n:=by
  rw[num_wbits _ _ (by omega)];exact Int.toNat_of_nonneg hn.1
 have hf:fetch 7 s=(n, {s with bits:=R}):=by
  have e1:s.bits.take 13=wbits n.toNat 13 13:=by rw[hb];exact List.take_left' (qaJ _ _ _)
  have e2:s.bits.drop 13=R:=by rw[hb];exact List.drop_left' (qaJ _ _ _)
  rw[fetch,hrd,if_pos rfl,w7,if_neg (by rw[hb,List.length_append,qaJ];omega),e1,e2,hnum]
 rw[oneS,if_neg (by omega),hf,if_neg (by simp only;omega),if_neg (by simp only[hm];decide),keep,if_pos rfl,w7];rfl
theorem seven_cut {s:WS}(hrd:s.rd=true)(he:s.e=0)(hb:s.bits.length<13):(oneS 7 s).2.e=10:=by
 have hf:fetch 7 s=(0, {s with e:=10}):=by rw[fetch,hrd,if_pos rfl,w7,if_pos hb]
 rw[oneS,if_neg (by omega),hf,if_pos (by simp only;omega)]
theorem seven_took {s:WS}(he:s.e=0)(h:(oneS 7 s).2.e=0)(hrd:s.rd=true): ∃n R,mayOf 7 n=true/\s.bits=qaA [(n,13)]++R:=by
 rw[oneS,if_neg (by omega)]at h;have e0:fetch 7 s=if s.bits.length<13 then(0, {s with e:=10})else(((num (s.bits.take 13):Nat):Int), {s with bits:=s.bits.drop 13}):=by rw[fetch,hrd,if_pos rfl,w7]
 by_cases hb:s.bits.length<13
 ·rw[e0,if_pos hb,if_pos (by simp only;omega)]at h;exact absurd (show(10:Int)=0 from h) (by decide)
 ·rw[if_neg hb]at e0
  rw[e0,if_neg (by simp only;omega)]at h;by_cases hm:mayOf 7 ((num (s.bits.take 13):Nat):Int)=true
  ·refine⟨_,s.bits.drop 13,hm,?_⟩
   rw[qdU];simp only[Int.toNat_natCast];have hlen:(s.bits.take 13).length=13:=by rw[List.length_take];omega
   have hw:wbits (num (s.bits.take 13)) 13 13=s.bits.take 13:=by
    apply List.ext_getElem (by rw[qaJ,hlen])
    intro i h1 h2;have hi:i<13:=by rw[qaJ]at h1;exact h1
    have g1:=qez (num (s.bits.take 13)) 13 13 i hi;rw[qdG,hlen,decide_eq_true (by omega),Bool.true_and,show 13-1-(13-1-i)=i by omega]at g1
    simpa[List.getD_eq_getElem?_getD,List.getElem?_eq_getElem h1,List.getElem?_eq_getElem h2]using g1
   show s.bits=wbits (num (s.bits.take 13)) 13 13++s.bits.drop 13
   rw[hw,List.take_append_drop]
  ·rw[if_pos (by simpa using hm)]at h;exact absurd (show(20:Int)=0 from h) (by decide)
structure Wh (id:Int) (D1 D2:List (Int×Int)):Prop where
 fit: ∀x∈D1++D2,FitP x
 items: ∀s R,s.rd=false->s.e=0->s.V=(D1++D2).map Prod.fst++R->runL (astOf id) 0 s= {s with V:=R,out:=s.out++D1++(0,13)::D2,got:=s.got++(D1++D2).map Prod.fst,place:=(s.out++D1).length}
 get: ∀s R n,s.rd=true->s.e=0->mayOf 7 n=true->s.bits=qaA (D1++(n,13)::D2)++R->runL (astOf id) 0 s= {s with bits:=R,out:=s.out++D1++(n,13)::D2,got:=s.got++(D1++D2).map Prod.fst,place:=(s.out++D1).length}
 cut: ∀s n,s.rd=true->s.e=0->mayOf 7 n=true->s.bits.length<(qaA (D1++(n,13)::D2)).length->s.bits=(qaA (D1++(n,13)::D2)).take s.bits.length->(runL (astOf id) 0 s).e=10
end
section
open Go.RowKit
open BitsM
theorem run_pre {pre:List Nd}{a:Nat}{post:List Nd}(hp:pre=[]\/pre=[.v 6])(s:WS)(he:s.e=0):
  runL (pre++ .v 7:: .v a::post) 0 s=if(runL pre 0 s).e≠0 then runL pre 0 s else runL (.v a::post) 0 (oneS 7 (runL pre 0 s)).2:=by
 have h7: ∀last t,runL (.v 7:: .v a::post) last t=if t.e≠0 then t else runL (.v a::post) 0 (oneS 7 t).2:=by
  intro last t;rw[runL,runN];split
  ·rfl
  ·exact run_last a post _ _
 rcases hp with rfl|rfl
 ·exact h7 0 s
 ·have e1:runL [.v 6] 0 s=(oneS 6 s).2:=by rw[runL,if_neg (by omega),runN,runL];rfl
  show runL (.v 6::(.v 7:: .v a::post)) 0 s=_
  rw[e1,runL,if_neg (by omega),runN];exact h7 _ _
theorem wh_make {id:Int}{pre:List Nd}{a:Nat}{post:List Nd}{D1 D2:List (Int×Int)}(sh:Shape id pre a post)(p1:Pk (fun s=>(0,runL pre 0 s)) 0 D1)(p2:Pk (fun s=>(0,runL (.v a::post) 0 s)) 0 D2):Wh id D1 D2:=by
 have ei: ∀s R,s.rd=false->s.e=0->s.V=D1.map Prod.fst++R->runL pre 0 s=adv s D1 R:=fun s R h1 h2 h3=>congrArg Prod.snd (p1.items s R h1 h2 h3);have eg: ∀s R,s.rd=true->s.e=0->s.bits=qaA D1++R->runL pre 0 s=advB s D1 R:=fun s R h1 h2 h3=>congrArg Prod.snd (p1.get s R h1 h2 h3);have fi: ∀s R,s.rd=false->s.e=0->s.V=D2.map Prod.fst++R->runL (.v a::post) 0 s=adv s D2 R:=fun s R h1 h2 h3=>congrArg Prod.snd (p2.items s R h1 h2 h3);have fg: ∀s R,s.rd=true->s.e=0->s.bits=qaA D2++R->runL (.v a::post) 0 s=advB s D2 R:=fun s R h1 h2 h3=>congrArg Prod.snd (p2.get s R h1 h2 h3);have e3: ∀n,qaA (D1++(n,13)::D2)=qaA D1++(qaA [(n,13)]++qaA D2):=fun n=>by
  rw[show D1++(n,(13:Int))::D2=D1++([(n,13)]++D2)from rfl,qbI,qbI]
 refine⟨?_,?_,?_,?_⟩
 ·intro x hx
  rw[List.mem_append]at hx;exact hx.elim (p1.fit x) (p2.fit x)
 ·intro s R hrd he hV
  rw[List.map_append,List.append_assoc]at hV;rw[sh.ast,run_pre sh.pre s he,ei s _ hrd he hV,if_neg (show¬(adv s D1 (D2.map Prod.fst++R)).e≠0 from fun k=>k he),qfM (s:=adv s D1 _) hrd he];refine Eq.trans (fi _ R ?_ ?_ ?_) ?_
  ·exact hrd
  ·exact he
  ·rfl
  simp[adv,List.append_assoc]
 ·intro s R n hrd he hm hb
  rw[e3,List.append_assoc,List.append_assoc]at hb;rw[sh.ast,run_pre sh.pre s he,eg s _ hrd he hb,if_neg (show¬(advB s D1 (qaA [(n,13)]++(qaA D2++R))).e≠0 from fun k=>k he),qfL (s:=advB s D1 _) (R:=qaA D2++R) hrd he hm rfl];refine Eq.trans (fg _ R ?_ ?_ ?_) ?_
  ·exact hrd
  ·exact he
  ·rfl
  simp[advB,List.append_assoc]
 ·intro s n hrd he hm hlt hb
  rw[e3]at hlt hb;rw[List.length_append]at hlt;rw[sh.ast,run_pre sh.pre s he];by_cases h1:s.bits.length<(qaA D1).length
  ·have hb1:s.bits=(qaA D1).take s.bits.length:=by
    rw[List.take_append_of_le_length (by omega)]at hb;exact hb
   have he1:(runL pre 0 s).e=10:=p1.cut s hrd he h1 hb1;rw[if_pos (by rw[he1];decide)];exact he1
  ·obtain⟨B,hB⟩:=geZ ((qaA [(n,13)]++qaA D2).take (s.bits.length-(qaA D1).length))
   have hb1:s.bits=qaA D1++B:=by
    rw[List.take_append,List.take_of_length_le (by omega),hB]at hb;exact hb
   have hBl:B.length=s.bits.length-(qaA D1).length:=by
    rw[<-hB,List.length_take];omega
   have h13:(qaA [(n,13)]).length=13:=by rw[qdU,qaJ];rfl
   rw[eg s B hrd he hb1,if_neg (show¬(advB s D1 B).e≠0 from fun k=>k he)];rw[List.length_append]at hlt;by_cases h2:B.length<13
   ·have he7:=seven_cut (s:=advB s D1 B) hrd he h2
    rw[qct _ _ (by rw[he7];decide)];exact he7
   ·obtain⟨C,hC⟩:=geZ ((qaA D2).take (B.length-13))
    have hB2:B=qaA [(n,13)]++C:=by
     rw[<-hB,List.take_append,List.take_of_length_le (by omega),h13,<-hBl,hC]
    have hCl:C.length=B.length-13:=by rw[<-hC,List.length_take];omega
    rw[qfL (s:=advB s D1 B) (R:=C) hrd he hm hB2];exact p2.cut _ hrd he (by show C.length<_;omega) (by show C=(qaA D2).take C.length;rw[hCl,hC])
theorem wh_of_run {id:Int}(hk:qcg id=true){s:WS}(he:s.e=0)(h:(runL (astOf id) 0 s).e=0):
  ∃D1 D2,Wh id D1 D2/\(s.rd=false-> ∃R,s.V=(D1++D2).map Prod.fst++R)/\(s.rd=true-> ∃n R,mayOf 7 n=true/\s.bits=qaA (D1++(n,13)::D2)++R):=by
 obtain⟨pre,a,post,sh⟩:=shape_of hk;rw[sh.ast,run_pre sh.pre s he]at h;have h1:(runL pre 0 s).e=0:=by
  by_cases k:(runL pre 0 s).e=0
  ·exact k
  ·rw[if_pos k]at h;exact absurd h k
 rw[if_neg (by omega)]at h;have hpp:qgx pre=true:=by rcases sh.pre with rfl|rfl<;>rfl
 obtain⟨D1,p1,t1⟩:=qe2 _ pre (Nat.lt_succ_self _) hpp 0 s he h1;have h7:(oneS 7 (runL pre 0 s)).2.e=0:=by
  by_cases k:(oneS 7 (runL pre 0 s)).2.e=0
  ·exact k
  ·rw[qct _ _ k]at h;exact absurd h k
 obtain⟨D2,p2,t2⟩:=qe2 _ (.v a::post) (Nat.lt_succ_self _) sh.plain 0 _ h7 h;refine⟨D1,D2,wh_make sh p1 p2,?_,?_⟩
 ·intro hrd
  obtain⟨R,hR⟩:=t1.1 hrd;have e1:runL pre 0 s=adv s D1 R:=congrArg Prod.snd (p1.items s R hrd he hR);rw[e1,qfM (s:=adv s D1 R) hrd he]at t2;obtain⟨R2,hR2⟩:=t2.1 hrd;exact⟨R2,by rw[hR,show R=_ from hR2,List.map_append,List.append_assoc]⟩
 ·intro hrd
  obtain⟨R,hR⟩:=t1.2 hrd;have e1:runL pre 0 s=advB s D1 R:=congrArg Prod.snd (p1.get s R hrd he hR);rw[e1]at h7 t2;obtain⟨n,R2,hm,hb2⟩:=seven_took (s:=advB s D1 R) he h7 hrd;rw[qfL (s:=advB s D1 R) (R:=R2) hrd he hm hb2]at t2;obtain⟨R3,hR3⟩:=t2.2 hrd;refine⟨n,R3,hm,?_⟩;rw[show D1++(n,(13:Int))::D2=D1++([(n,13)]++D2)from rfl,qbI,qbI,hR,show R=_ from hb2,show R2=_ from hR3];simp[List.append_assoc]
def qbr (id:Int)(V:List Int):WS:=⟨V,false,[],[(id,8)],[],0,0⟩
def qgk (id:Int)(V:List Int):List (Int×Int)×Int:=
 if qcg id=false then([],50)else
 if(runL (astOf id) 0 (qbr id V)).e≠0 then([],(runL (astOf id) 0 (qbr id V)).e)else
 if(runL (astOf id) 0 (qbr id V)).V≠[]then([],20)else
 if 8184<qaz (runL (astOf id) 0 (qbr id V)).out then([],2)else
 ((runL (astOf id) 0 (qbr id V)).out.set (runL (astOf id) 0 (qbr id V)).place.toNat (qaz (runL (astOf id) 0 (qbr id V)).out,13),0)
theorem total_append (a b:List (Int×Int)):qaz (a++b)=qaz a+qaz b:=by
 have h: ∀(l:List (Int×Int)) (n:Int),l.foldl (fun n x=>n+x.2) n=n+qaz l:=by
  intro l
  induction l with
  |nil=>intro n;simp[qaz]
  |cons x l ih=>
   intro n;have e:qaz (x::l)=l.foldl (fun n x=>n+x.2) (0+x.2):=rfl;rw[List.foldl_cons,ih,e,ih];omega
 rw[qaz,List.foldl_append,h,<-qaz]
theorem total_cons (x:Int×Int)(l:List (Int×Int)):qaz (x::l)=x.2+qaz l:=by
 rw[show x::l=[x]++l from rfl,total_append];simp[qaz]
theorem items_form {id:Int}{V:List Int}(hk:qcg id=true)(h:(runL (astOf id) 0 (qbr id V)).e=0):
  ∃D1 D2 R,Wh id D1 D2/\V=(D1++D2).map Prod.fst++R/\runL (astOf id) 0 (qbr id V)= {qbr id V with V:=R,out:=[(id,8)]++D1++(0,13)::D2,got:=(D1++D2).map Prod.fst,place:=([(id,(8:Int))]++D1).length} :=by
 obtain⟨D1,D2,w,hi,_⟩:=wh_of_run hk (s:=qbr id V) rfl h;obtain⟨R,hR⟩:=hi rfl;exact⟨D1,D2,R,w,hR,w.items (qbr id V) R rfl rfl hR⟩
end
section
open Go.RowKit
open BitsM
theorem getD_mid2 (id:Int)(D1 D2:List (Int×Int))(x:Int×Int):([(id,(8:Int))]++D1++x::D2).getD ([(id,(8:Int))]++D1).length (0,0)=x:=by
 rw[List.getD_eq_getElem?_getD,List.getElem?_append_right (Nat.le_refl _),Nat.sub_self];rfl
end
section
open Go.RowKit
open BitsM
structure LnOk (x:(Int×Int)×(Int×Int)):Prop where
 n0:0<=x.1.1
 n1:x.1.1<=32767
 c0:0<=x.1.2
 c1:x.1.2<=1023
 b0:0<=x.2.1
 b1:x.2.1<=16383
 o0:0<=x.2.2
 o1:x.2.2<=1
def qaV (p:Int×List Int):Bool:=decide ((qgk p.1 p.2).2=0)
end
section
open Go.RowKit
open BitsM
theorem one_inv17 {v:Nat}{s:WS}(hrd:s.rd=false)(h7:v≠7)(h:(oneS v s).2.e=0):s.e=0/\s.V=(oneS v s).1::(oneS v s).2.V/\mayOf v (oneS v s).1=true/\(oneS v s).2.rd=false:=by
 have h7': ¬((v:Int)=7):=by omega
 unfold oneS at h⊢;by_cases h0:s.e≠0
 ·rw[if_pos h0]at h
  exact absurd h h0
 ·rw[if_neg h0]at h⊢
  have he:s.e=0:=by simpa using h0
  cases hV:s.V with
  |nil=>
   have hf:fetch v s=(0, {s with e:=20}):=by unfold fetch;rw[if_neg (by rw[hrd];decide),if_neg h7',if_pos hV]
   rw[hf,if_pos (show({s with e:=20} :WS).e≠0 from by show(20:Int)≠0;decide)]at h;exact absurd h (by show¬((20:Int)=0);decide)
  |cons x r=>
   have hf:fetch v s=(x, {s with V:=r}):=by
    unfold fetch;rw[if_neg (by rw[hrd];decide),if_neg h7',if_neg (by rw[hV];simp),hV]
    rfl
   rw[hf]at h⊢;rw[if_neg (by dsimp only;exact h0)]at h⊢;by_cases hm:mayOf v x=false
   ·rw[if_pos hm]at h
    exact absurd h (by show¬((20:Int)=0);decide)
   ·rw[if_neg hm]
    have hm':mayOf v x=true:=by simpa using hm
    refine⟨he,?_,hm',?_⟩
    ·unfold keep
     dsimp only;rw[if_neg h7'];split<;>rfl
    ·unfold keep
     dsimp only;rw[if_neg h7'];split<;>exact hrd
theorem seven_inv17 {s:WS}(hrd:s.rd=false)(h:(oneS 7 s).2.e=0):s.e=0/\(oneS 7 s).2.V=s.V/\(oneS 7 s).2.rd=false:=by
 unfold oneS at h⊢;by_cases h0:s.e≠0
 ·rw[if_pos h0]at h
  exact absurd h h0
 ·have hf:fetch 7 s=(0,s):=by unfold fetch;rw[if_neg (by rw[hrd];decide),if_pos rfl]
  have he:s.e=0:=by simpa using h0
  rw[if_neg h0,hf]at h⊢;rw[if_neg h0]at h⊢;by_cases hm:mayOf 7 0=false
  ·rw[if_pos hm]at h
   exact absurd h (by show¬((20:Int)=0);decide)
  ·rw[if_neg hm]
   exact⟨he,rfl,hrd⟩
def ShRep (P:List Int->List Int->Prop):Nat->List Int->List Int->Prop
 |0,V,U=>U=V
 |m+1,V,U=> ∃W,P V W/\ShRep P m W U
theorem ShRep.snoc {P:List Int->List Int->Prop}{m:Nat}{V W U:List Int}(h:ShRep P m V W)(hp:P W U):ShRep P (m+1) V U:=by
 induction m generalizing V with
 |zero=>
  have h:W=V:=h;subst h;exact⟨U,hp,rfl⟩
 |succ m ih=>
  obtain⟨X,h1,h2⟩:=h;exact⟨X,h1,ih h2⟩
theorem ShRep.imp {P Q:List Int->List Int->Prop}(hPQ: ∀V U,P V U->Q V U){m:Nat}{V U:List Int}(h:ShRep P m V U):ShRep Q m V U:=by
 induction m generalizing V with
 |zero=>exact h
 |succ m ih=>
  obtain⟨X,h1,h2⟩:=h;exact⟨X,hPQ _ _ h1,ih h2⟩
mutual
def ShN:Nd->Int->List Int->Int->List Int->Prop
 | .v n,_,V,l1,U=>if n=7 then U=V else V=l1::U/\mayOf n l1=true
 | .g k b,last,V,l1,U=>l1=last/\ShRep (fun V U=>ShL b 0 V U) (many k last) V U
def ShL:List Nd->Int->List Int->List Int->Prop
 |[],_,V,U=>U=V
 |x::l,last,V,U=> ∃l1 W,ShN x last V l1 W/\ShL l l1 W U
end
theorem rep_inv17 {P:List Int->List Int->Prop}{f:WS->WS}(hf: ∀s:WS,s.rd=false->(f s).e=0->s.e=0/\P s.V (f s).V/\(f s).rd=false)(m:Nat){s:WS}(hrd:s.rd=false)(h:(repS f m s).e=0):s.e=0/\ShRep P m s.V (repS f m s).V/\(repS f m s).rd=false:=by
 induction m generalizing s with
 |zero=>exact⟨h,rfl,hrd⟩
 |succ m ih=>
  rw[repS]at h⊢;by_cases h0:s.e≠0
  ·rw[if_pos h0]at h
   exact absurd h h0
  ·rw[if_neg h0]at h⊢
   have he:s.e=0:=by simpa using h0
   have h1:(f s).e=0:=by
    by_cases h2:(f s).e≠0
    ·rw[qe0 _ _ h2]at h
     exact absurd h h2
    ·simpa using h2
   obtain⟨g1,g2,g3⟩:=hf s hrd h1;obtain⟨k1,k2,k3⟩:=ih g3 h;exact⟨he,⟨_,g2,k2⟩,k3⟩
mutual
theorem shN_inv17: ∀(x:Nd) (last:Int) (s:WS),s.rd=false->(runN x last s).2.e=0->s.e=0/\ShN x last s.V (runN x last s).1 (runN x last s).2.V/\(runN x last s).2.rd=false
 | .v n,last,s,hrd,h=>by
  simp only[runN]at h⊢;by_cases h7:n=7
  ·subst h7
   obtain⟨h1,h2,h3⟩:=seven_inv17 hrd h;refine⟨h1,?_,h3⟩;rw[ShN,if_pos rfl];exact h2
  ·obtain⟨h1,h2,h3,h4⟩:=one_inv17 hrd h7 h
   refine⟨h1,?_,h4⟩;rw[ShN,if_neg h7];exact⟨h2,h3⟩
 | .g k b,last,s,hrd,h=>by
  simp only[runN]at h⊢;obtain⟨h1,h2,h3⟩:=rep_inv17 (P:=fun V U=>ShL b 0 V U) (fun s hs h=>qfN b 0 s hs h) (many k last) hrd h;refine⟨h1,?_,h3⟩;rw[ShN];exact⟨rfl,h2⟩
theorem qfN: ∀(b:List Nd) (last:Int) (s:WS),s.rd=false->(runL b last s).e=0->s.e=0/\ShL b last s.V (runL b last s).V/\(runL b last s).rd=false
 |[],last,s,hrd,h=>by
  simp only[runL]at h⊢;refine⟨h,?_,hrd⟩;rw[ShL]
 |x::l,last,s,hrd,h=>by
  simp only[runL]at h⊢;by_cases h0:s.e≠0
  ·rw[if_pos h0]at h
   exact absurd h h0
  ·rw[if_neg h0]at h⊢
   have he:s.e=0:=by simpa using h0
   have h1:(runN x last s).2.e=0:=by
    by_cases h2:(runN x last s).2.e≠0
    ·rw[qct _ _ h2]at h
     exact absurd h h2
    ·simpa using h2
   obtain⟨g1,g2,g3⟩:=shN_inv17 x last s hrd h1;obtain⟨k1,k2,k3⟩:=qfN l _ _ g3 h;refine⟨he,?_,k3⟩;rw[ShL];exact⟨_,_,g2,k2⟩
end
theorem qdS {id:Int}{V:List Int}(h:qaV (id,V)=true):ShL (astOf id) 0 V []:=by
 unfold qaV qgk at h;rw[decide_eq_true_eq]at h;dsimp only at h;split at h
 ·exact absurd h (by show¬((50:Int)=0);decide)
 ·split at h
  ·rename_i h2
   exact absurd h h2
  ·rename_i h2
   split at h
   ·exact absurd h (by show¬((20:Int)=0);decide)
   ·rename_i h3
    have h4:=qfN (astOf id) 0 (qbr id V) rfl (by simpa using h2);have h5:(runL (astOf id) 0 (qbr id V)).V=[]:=by simpa using h3
    rw[h5]at h4;exact h4.2.1
theorem qbA {v:Nat}{x M:Int}(h:mayOf v x=true)(hM:qbu v=M)(hs:qbv v=0):0<=x/\x<=M:=by
 unfold mayOf at h;rw[hM,hs]at h;simp only[Bool.and_eq_true,Bool.or_eq_true,decide_eq_true_eq]at h;refine⟨h.1.2,?_⟩
 rcases h.2 with h|h
 ·exact h
 ·exact absurd rfl h.1.1
/-! ## Packet 15 -/
def SecSh (V U:List Int):Prop:= ∃x q,(0<=x/\x<=32767)/\((q=0/\V=x::q::U)\/(q=1/\ ∃a b,(0<=a/\a<=1023)/\V=x::q::a::b::U))
def GapSh (V:List Int):Prop:= ∃q p R,(0<=p/\p<=1)/\((q=0/\V=q::p::R)\/(q=1/\ ∃a b,V=q::a::b::p::R))/\(p=1-> ∃g z S,(0<=g/\g<=32767)/\R=g::z::S)
theorem qeq {last:Int}{a b:Nat}{V U:List Int}(ha:a≠7)(hb:b≠7)(hl:0<=last/\last<=1)(h: ∃l1 W,ShN (.g 1 [.v a,.v b]) last V l1 W/\(l1=last/\U=W)):(last=0/\V=U)\/(last=1/\ ∃x y,mayOf a x=true/\mayOf b y=true/\V=x::y::U):=by
 obtain⟨l1,W,h1,rfl,rfl⟩:=h;rw[ShN]at h1;obtain⟨-,h1⟩:=h1
 rcases(by omega:l1=0\/l1=1)with rfl|rfl
 ·exact .inl ⟨rfl,(show U=V from h1).symm⟩
 ·refine .inr ⟨rfl,?_⟩
  obtain⟨X,h2,h3⟩:=h1;have h3:U=X:=h3;subst h3;simp only[ShL,ShN,if_neg ha,if_neg hb]at h2;obtain⟨x,W1,⟨rfl,m1⟩,y,W2,⟨rfl,m2⟩,h2⟩:=h2;subst h2;exact⟨x,y,m1,m2,rfl⟩
theorem sec_inv17 {v:Nat}(hv:v≠7)(hm:qbu v=32767)(hs:qbv v=0){V U:List Int}(h: ∃l1 W,ShN (.v v) 0 V l1 W/\ ∃l2 W2,ShN (.v 29) l1 W l2 W2/\ ∃l3 W3,ShN (.g 1 [.v 30,.v 31]) l2 W2 l3 W3/\U=W3):SecSh V U:=by
 obtain⟨x,W,h1,q,W2,h2,l3,W3,h3,rfl⟩:=h;rw[ShN,if_neg hv]at h1;rw[ShN,if_neg (by decide)]at h2;obtain⟨rfl,m1⟩:=h1;obtain⟨rfl,m2⟩:=h2;have b1:=qbA m1 hm hs;have b2:=qbA m2 (show qbu (29:Nat)=1 from by kernel_rfl) (by kernel_rfl);have h4:l3=q:=by rw[ShN]at h3;exact h3.1
 rcases qeq (by decide) (by decide) b2 ⟨l3,_,h3,h4,rfl⟩with⟨rfl,rfl⟩|⟨rfl,a,b,ma,_,rfl⟩
 ·exact⟨x,0,b1,.inl ⟨rfl,rfl⟩⟩
 ·exact⟨x,1,b1,.inr ⟨rfl,a,b,qbA ma (show qbu (30:Nat)=1023 from by kernel_rfl) (by kernel_rfl),rfl⟩⟩
theorem qfe {V:List Int}(h:qaV (15,V)=true): ∃d u a b n R0 R1,V=d::u::a::b::n::R0/\(0<=d/\d<=2)/\(0<=u/\u<=2)/\(0<=n/\n<=31)/\ShRep SecSh (n.toNat+1) R0 R1/\GapSh R1:=by
 have h1:=qdS h;rw[show astOf 15=ast15 from rfl]at h1;unfold ast15 at h1;rw[ShL]at h1;obtain⟨d,W1,m1,h1⟩:=h1;rw[ShN,if_neg (by decide)]at m1;obtain⟨rfl,m1⟩:=m1;rw[ShL]at h1;obtain⟨l2,W2,m2,h1⟩:=h1;rw[ShN,if_pos rfl]at m2;subst m2;rw[ShL]at h1;obtain⟨u,W3,m3,h1⟩:=h1;rw[ShN,if_neg (by decide)]at m3;obtain⟨rfl,m3⟩:=m3;rw[ShL]at h1;obtain⟨a,W4,m4,h1⟩:=h1;rw[ShN,if_neg (by decide)]at m4;obtain⟨rfl,m4⟩:=m4;rw[ShL]at h1;obtain⟨b,W5,m5,h1⟩:=h1;rw[ShN,if_neg (by decide)]at m5;obtain⟨rfl,m5⟩:=m5;rw[ShL]at h1;obtain⟨n,W6,m6,h1⟩:=h1;rw[ShN,if_neg (by decide)]at m6;obtain⟨rfl,m6⟩:=m6;rw[ShL]at h1;obtain⟨n2,W7,m7,h1⟩:=h1;rw[ShN]at m7;obtain⟨rfl,m7⟩:=m7;have hmany:many 0 n2=n2.toNat:=rfl;rw[hmany]at m7;have m7:ShRep SecSh n2.toNat W6 W7:=m7.imp fun V U hVU=>by
  simp only[ShL]at hVU;exact sec_inv17 (by decide) (by kernel_rfl) (by kernel_rfl) hVU
 rw[ShL]at h1;obtain⟨x,W8,m8,h1⟩:=h1;rw[ShL]at h1;obtain⟨q,W9,m9,h1⟩:=h1;rw[ShL]at h1;obtain⟨q2,W10,m10,h1⟩:=h1;have s1:SecSh W7 W10:=by
  refine sec_inv17 (v:=32) (by decide) (by kernel_rfl) (by kernel_rfl) ⟨x,W8,?_,q,W9,m9,q2,W10,m10,rfl⟩;rw[ShN]at m8⊢;exact m8
 rw[ShL]at h1;obtain⟨q3,W11,m11,h1⟩:=h1;rw[ShN,if_neg (by decide)]at m11;obtain⟨rfl,m11⟩:=m11;rw[ShL]at h1;obtain⟨q4,W12,m12,h1⟩:=h1;have e12:q4=q3:=by rw[ShN]at m12;exact m12.1
 have s2:=qeq (by decide) (by decide) (qbA m11 (show qbu (33:Nat)=1 from by kernel_rfl) (by kernel_rfl)) ⟨q4,W12,m12,e12,rfl⟩;rw[ShL]at h1;obtain⟨p,W13,m13,h1⟩:=h1;rw[ShN,if_neg (by decide)]at m13;obtain⟨rfl,m13⟩:=m13;rw[ShL]at h1;obtain⟨p2,W14,m14,h1⟩:=h1;have e14:p2=p:=by rw[ShN]at m14;exact m14.1
 have bp:=qbA m13 (show qbu (36:Nat)=1 from by kernel_rfl) (by kernel_rfl);have s3:=qeq (by decide) (by decide) bp ⟨p2,W14,m14,e14,rfl⟩;refine⟨d,u,a,b,n2,W6,q3::W11,rfl,qbA m1 (show qbu (6:Nat)=2 from by kernel_rfl) (by kernel_rfl),qbA m3 (show qbu (8:Nat)=2 from by kernel_rfl) (by kernel_rfl),qbA m6 (show qbu (27:Nat)=31 from by kernel_rfl) (by kernel_rfl),m7.snoc s1,?_⟩;refine⟨q3,p,W13,bp,?_,?_⟩
 ·rcases s2 with⟨rfl,rfl⟩|⟨rfl,x1,y1,_,_,rfl⟩
  ·exact .inl ⟨rfl,rfl⟩
  ·exact .inr ⟨rfl,x1,y1,rfl⟩
 ·intro hp
  rcases s3 with⟨e,_⟩|⟨_,g,z,mg,_,rfl⟩
  ·omega
  ·exact⟨g,z,W14,qbA mg (show qbu (37:Nat)=32767 from by kernel_rfl) (by kernel_rfl),rfl⟩
/-! ## Packet 5 -/
structure Lk17 where
 told:Bool
 group:Int
 rev:Bool
def LnkSh (k:Lk17)(V U:List Int):Prop:= ∃d b o r a,(0<=b/\b<=16383)/\((∃c,(0<=c/\c<=1023)/\V=d::1::c::b::o::r::a::U/\k=⟨true,c*16384+b,o==0⟩)\/(V=d::0::b::o::r::a::U/\k=⟨false,b,o==0⟩))
def qf5:List Lk17->List Int->List Int->Prop
 |[],V,U=>U=V
 |k::r,V,U=> ∃W,LnkSh k V W/\qf5 r W U
theorem lnk_inv17 {last:Int}{V U:List Int}(h: ∃l1 W1,ShN (.v 44) last V l1 W1/\ ∃l2 W2,ShN (.v 12) l1 W1 l2 W2/\ ∃l3 W3,ShN (.g 1 [.v 10]) l2 W2 l3 W3/\ ∃l4 W4,ShN (.v 11) l3 W3 l4 W4/\ ∃l5 W5,ShN (.v 45) l4 W4 l5 W5/\ ∃l6 W6,ShN (.v 46) l5 W5 l6 W6/\ ∃l7 W7,ShN (.v 47) l6 W6 l7 W7/\U=W7): ∃k,LnkSh k V U:=by
 obtain⟨d,W1,h1,q,W2,h2,l3,W3,h3,b,W4,h4,o,W5,h5,r,W6,h6,a,W7,h7,rfl⟩:=h;rw[ShN,if_neg (by decide)]at h1 h2 h4 h5 h6 h7;obtain⟨rfl,_⟩:=h1;obtain⟨rfl,m2⟩:=h2;obtain⟨rfl,m4⟩:=h4;obtain⟨rfl,_⟩:=h5;obtain⟨rfl,_⟩:=h6;obtain⟨rfl,_⟩:=h7;have b2:=qbA m2 (show qbu (12:Nat)=1 from by kernel_rfl) (by kernel_rfl);have b4:=qbA m4 (show qbu (11:Nat)=16383 from by kernel_rfl) (by kernel_rfl);rw[ShN]at h3;obtain⟨-,h3⟩:=h3
 rcases(by omega:q=0\/q=1)with rfl|rfl
 ·have h3:b::o::r::a::U=W2:=h3
  subst h3;exact⟨_,d,b,o,r,a,b4,.inr ⟨rfl,rfl⟩⟩
 ·obtain⟨X,g1,g2⟩:=h3
  have g2:b::o::r::a::U=X:=g2;subst g2;simp only[ShL,ShN,if_neg (show¬(10=7)from by decide)]at g1;obtain⟨c,W9,⟨rfl,mc⟩,g3⟩:=g1;subst g3;exact⟨_,d,b,o,r,a,b4,.inl ⟨c,qbA mc (show qbu (10:Nat)=1023 from by kernel_rfl) (by kernel_rfl),rfl,rfl⟩⟩
theorem lnks_rep17 {m:Nat}{V U:List Int}(h:ShRep (fun V U=> ∃k,LnkSh k V U) m V U): ∃ks:List Lk17,ks.length=m/\qf5 ks V U:=by
 induction m generalizing V with
 |zero=>exact⟨[],rfl,h⟩
 |succ m ih=>
  obtain⟨X,⟨k,h1⟩,h2⟩:=h;obtain⟨ks,h3,h4⟩:=ih h2;exact⟨k::ks,by rw[List.length_cons,h3],X,h1,h4⟩
theorem five_shape17 {V:List Int}(h:qaV (5,V)=true): ∃d u R0 R1 n k ks,V=d::u::R0/\LnkSh k R0 (n::R1)/\(0<=n/\n<=31)/\ks.length=n.toNat/\qf5 ks R1 []:=by
 have h1:=qdS h;rw[show astOf 5=ast5 from rfl]at h1;unfold ast5 at h1;rw[ShL]at h1;obtain⟨d,W1,m1,h1⟩:=h1;rw[ShN,if_neg (by decide)]at m1;obtain⟨rfl,m1⟩:=m1;rw[ShL]at h1;obtain⟨l2,W2,m2,h1⟩:=h1;rw[ShN,if_pos rfl]at m2;subst m2;rw[ShL]at h1;obtain⟨u,W3,m3,h1⟩:=h1;rw[ShN,if_neg (by decide)]at m3;obtain⟨rfl,m3⟩:=m3;rw[ShL]at h1;obtain⟨a1,A1,k1,h1⟩:=h1;rw[ShL]at h1;obtain⟨a2,A2,k2,h1⟩:=h1;rw[ShL]at h1;obtain⟨a3,A3,k3,h1⟩:=h1;rw[ShL]at h1;obtain⟨a4,A4,k4,h1⟩:=h1;rw[ShL]at h1;obtain⟨a5,A5,k5,h1⟩:=h1;rw[ShL]at h1;obtain⟨a6,A6,k6,h1⟩:=h1;rw[ShL]at h1;obtain⟨a7,A7,k7,h1⟩:=h1;obtain⟨k,hk⟩:=lnk_inv17 ⟨a1,A1,k1,a2,A2,k2,a3,A3,k3,a4,A4,k4,a5,A5,k5,a6,A6,k6,a7,A7,k7,rfl⟩;rw[ShL]at h1;obtain⟨n,W4,m4,h1⟩:=h1;rw[ShN,if_neg (by decide)]at m4;obtain⟨rfl,m4⟩:=m4;rw[ShL]at h1;obtain⟨n2,W5,m5,h1⟩:=h1;rw[ShN]at m5;obtain⟨rfl,m5⟩:=m5;rw[show many 0 n2=n2.toNat from rfl]at m5;rw[ShL]at h1;subst h1;obtain⟨ks,g1,g2⟩:=lnks_rep17 (m5.imp fun V U hVU=>by
  simp only[ShL]at hVU;exact lnk_inv17 hVU)
 exact⟨d,u,W3,W4,n2,k,ks,rfl,hk,qbA m4 (show qbu (27:Nat)=31 from by kernel_rfl) (by kernel_rfl),g1,g2⟩
/-! ## The way that is read -/
def qa9 (t:Tp3):List St3->List Lk17->List St3×Int
 |path,[]=>(path,0)
 |path,k::r=>
  if k.told=false then([],20)
  else match balF t k.group with
   |none=>([],4)
   |some b=>
    if b.edge=(lastS path).edge then qa9 t path r
    else if mayT t (lastS path) ⟨b.edge,k.rev⟩=false then([],141)
    else if metS path [⟨b.edge,k.rev⟩]=true\/path.length=24 then([],2)
    else qa9 t (path++[⟨b.edge,k.rev⟩]) r
theorem qeH {t:Tp3}{path:List St3}{k:Lk17}{V U:List Int}(h:LnkSh k V U)(r:List Lk17):
  ((qbP t path V).2≠0->qa9 t path (k::r)=([],(qbP t path V).2))/\((qbP t path V).2=0->k.told=true/\V.drop 7=U/\qa9 t path (k::r)=qa9 t (qbP t path V).1 r):=by
 obtain⟨d,b,o,ra,a,_,⟨c,_,rfl,rfl⟩|⟨rfl,rfl⟩⟩:=h
 ·unfold qbP
  rw[if_neg (show¬((d::1::c::b::o::ra::a::U).getD 1 0≠1)from fun h=>h rfl)];rw[show(d::1::c::b::o::ra::a::U).getD 2 0=c from rfl,show(d::1::c::b::o::ra::a::U).getD 3 0=b from rfl,show(d::1::c::b::o::ra::a::U).getD 4 0=o from rfl];rw[qa9];dsimp only;rw[if_neg (show¬(true=false)from by decide)]
  cases balF t (c*16384+b)with
  |none=>exact⟨fun _=>rfl,fun h=>absurd h (by show¬((4:Int)=0);decide)⟩
  |some x=>
   dsimp only;by_cases h1:x.edge=(lastS path).edge
   ·rw[if_pos h1,if_pos h1]
    exact⟨fun h=>absurd rfl h,fun _=>⟨rfl,rfl,rfl⟩⟩
   ·rw[if_neg h1,if_neg h1]
    by_cases h2:mayT t (lastS path) ⟨x.edge,o==0⟩=false
    ·rw[if_pos h2,if_pos h2]
     exact⟨fun _=>rfl,fun h=>absurd h (by show¬((141:Int)=0);decide)⟩
    ·rw[if_neg h2,if_neg h2]
     by_cases h3:metS path [⟨x.edge,o==0⟩]=true\/path.length=24
     ·rw[if_pos h3,if_pos h3]
      exact⟨fun _=>rfl,fun h=>absurd h (by show¬((2:Int)=0);decide)⟩
     ·rw[if_neg h3,if_neg h3]
      exact⟨fun h=>absurd rfl h,fun _=>⟨rfl,rfl,rfl⟩⟩
 ·unfold qbP
  rw[qa9];dsimp only;rw[if_pos (show(false=false)from rfl),if_pos (show(d::0::b::o::ra::a::U).getD 1 0≠1 from by show(0:Int)≠1;decide)];exact⟨fun _=>rfl,fun h=>absurd h (by show¬((20:Int)=0);decide)⟩
theorem follow_go17 {t:Tp3}{ks:List Lk17}{path:List St3}{V U:List Int}(h:qf5 ks V U):qa9 t path ks=linkGo t ks.length path V:=by
 induction ks generalizing path V with
 |nil=>rfl
 |cons k r ih=>
  obtain⟨W,h1,h2⟩:=h;obtain⟨g1,g2⟩:=qeH (t:=t) (path:=path) h1 r;rw[List.length_cons,linkGo];by_cases h0:(qbP t path V).2≠0
  ·rw[if_pos h0,g1 h0]
  ·rw[if_neg h0]
   obtain⟨_,k2,k3⟩:=g2 (by simpa using h0);rw[k2,k3];exact ih h2
theorem qfi {t:Tp3}{path:List St3}{d u n:Int}{k:Lk17}{ks:List Lk17}{R0 R1 U:List Int}(h1:LnkSh k R0 (n::R1))(hn:ks.length=n.toNat)(h2:qf5 ks R1 U):qa9 t path (k::ks)=qej t path (d::u::R0):=by
 obtain⟨g1,g2⟩:=qeH (t:=t) (path:=path) h1 ks;unfold qej;rw[show(d::u::R0).drop 2=R0 from rfl];by_cases h0:(qbP t path R0).2≠0
 ·rw[if_pos h0,g1 h0]
 ·rw[if_neg h0]
  obtain⟨k1,k2,k3⟩:=g2 (by simpa using h0);rw[k3];obtain⟨_,b,o,ra,a,_,⟨c,_,e,_⟩|⟨_,e⟩⟩:=h1
  ·rw[show(d::u::R0).getD 9 0=n from by rw[e];rfl,show(d::u::R0).drop 10=R1 from by rw[e];rfl,<-hn]
   exact follow_go17 h2
  ·rw[e]at k1
   cases k1
end
section
open Go.RowKit
open Go.Great
def NumR (wb W:World)(g:Nat)(V:List Int):Prop:= ∃(A:Option Addr) (n c:Nat),Has W g 172 #[.slice A n c]/\(∀W',Below wb.heap.size wb W'->SlO inC 1 W' A n c V)/\n<=c/\n<=10000
theorem NumR.under {wb W W':World}{g:Nat}{V:List Int}(h:NumR wb W g V)(hb:Below W.heap.size W W'):NumR wb W' g V:=by
 obtain⟨A,n,c,h1,h2⟩:=h;exact⟨A,n,c,h1.u hb,h2⟩
theorem NumR.grow {wb W W':World}{g:Nat}{V:List Int}{row:Option Nat}(h:NumR wb W g V)(hg:W.grownBy W' row)(hne:some g≠row):NumR wb W' g V:=by
 obtain⟨A,n,c,h1,h2⟩:=h;exact⟨A,n,c,h1.grow hg hne,h2⟩
theorem NumR.lt {wb W:World}{g:Nat}{V:List Int}(h:NumR wb W g V):g<W.heap.size:=by
 obtain⟨A,n,c,h1,h2⟩:=h;exact h1.lt
def qb7 (V:List Int):Int×Int×Int:=
 if V.getD 1 0≠1 then(0,0,20)else if V.getD 2 0<1\/1000<V.getD 2 0\/V.getD 0 0=0 then(0,0,20)else if 32766<V.getD 0 0 then(0,0,7)else(V.getD 0 0,V.getD 2 0,0)
def qeI (V:List Int):Int×Int:=
 let v:=if V.getD 0 0=1 then V.drop 2 else V
 if v.getD 1 0=0 then(0,0)else if 32766<v.getD 2 0 then(0,7)else(v.getD 2 0,0)
theorem qay (x:Int)(U:List Int)(g:Nat)(wb W:World)(h:NumR wb W g (x::U))(hb:Below wb.heap.size wb W)(_hg:wb.heap.size<=g):
  Calls Tryz.prog 124 #[.pointer (some ⟨g,0,none⟩)] W fun r W'=>r= .returned (.int .i64 x)/\NumR wb W' g U/\W.grownBy W' (some g):=by
 obtain⟨A,n,c,h1,h2,h3,h4⟩:=h;have hs:=h2 W hb;have hn:n=U.length+1:=by rw[<-hs.1];rfl
 obtain⟨m,hm⟩:=geZ (U.length);rw[hm]at hn;subst hn;obtain⟨bk,off,hA,d0⟩:=hs.int13 (j:=0) (x:=x) rfl;subst hA;have d0':W.cell? ⟨bk,off,none⟩=some (.int .i64 x):=d0;have e0:W.cell? ⟨g,0,none⟩=some (.slice (some ⟨bk,off,none⟩) (m+1) c):=h1.cell 0;have h5:1<=m+1:=by omega
 have u1:(0:Int)<((m+1:Nat):Int):=by omega
 have hcu: ∀W,(Instr.sliceAt 22 (.slice (some ⟨bk,off,none⟩) (m+1) c) (some (.int .i64 1)) none none).run Tryz.prog W= .ok (.slice (if c=1 then(some ⟨bk,off,none⟩:Option Addr)else(some ⟨bk,off,none⟩:Option Addr).map (·.add (1*1))) (m+1-1) (c-1)) W:=fun W=>qbT (P:=Tryz.prog) 1 22 3 Tryz.underlying22 (by kernel_rfl) (some ⟨bk,off,none⟩) (m+1) c 1 h5 W;have HS:=zq (fun W' (hW:Below wb.heap.size wb W')=>(h2 W' hW).from17 (fun _=>rfl) h3 h5);obtain⟨A2,hA2⟩:=geZ ((if c=1 then(some ⟨bk,off,none⟩:Option Addr)else(some ⟨bk,off,none⟩:Option Addr).map (·.add (1*1))));obtain⟨c2,hc2⟩: ∃m,c-1=m:=⟨_,rfl⟩
 rw[hA2,hc2]at hcu HS;have HC:=zq (show m<=c2/\m<=10000 from by omega);have HG:=zq h1;clear hA2 hc2 h1 h2 h3 h4 h5 hs hm d0 hb;go_enter Tryz.func124,Tryz.ntmps124;go_wp2_with (with_reducible refine qap (o:=⟨none,_,_,_,_,_⟩) rfl 22 _ _ rfl (g) 0 (.slice A2 m c2) rfl rfl 172 #[.slice (some ⟨bk,off,none⟩) (m+1) c] HG.out (Nat.le_of_ble_eq_true rfl) (by kernel_rfl) rfl #[.slice A2 m c2] rfl ?_);go_ret
 exact⟨rfl,⟨A2,m,c2,qaa HG.out _,HS.out,HC.out.1,HC.out.2⟩,qal _ _ _⟩
theorem qbX (V:List Int)(k:Nat)(hk:k<=V.length)(g:Nat)(wb W:World)(h:NumR wb W g V)(hb:Below wb.heap.size wb W)(_hg:wb.heap.size<=g):
  Calls Tryz.prog 125 #[.pointer (some ⟨g,0,none⟩),.int .i64 k] W fun r W'=>r= .returned (.tuple #[])/\NumR wb W' g (V.drop k)/\W.grownBy W' (some g):=by
 obtain⟨A,n,c,h1,h2,h3,h4⟩:=h;have hs:=h2 W hb;have hn:k<=n:=by rw[<-hs.1];exact hk
 have e0:W.cell? ⟨g,0,none⟩=some (.slice A n c):=h1.cell 0;have hcu: ∀W,(Instr.sliceAt 22 (.slice A n c) (some (.int .i64 k)) none none).run Tryz.prog W= .ok (.slice (if c=k then A else A.map (·.add (k*1))) (n-k) (c-k)) W:=fun W=>qbT (P:=Tryz.prog) 1 22 3 Tryz.underlying22 (by kernel_rfl) A n c k hn W;have HS:=zq (fun W' (hW:Below wb.heap.size wb W')=>(h2 W' hW).from17 (fun _=>rfl) h3 hn);obtain⟨A2,hA2⟩:=geZ ((if c=k then A else A.map (·.add (k*1))));obtain⟨c2,hc2⟩: ∃m,c-k=m:=⟨_,rfl⟩
 obtain⟨m,hm⟩:=geZ (n-k);rw[hA2,hc2,hm]at hcu HS;have HC:=zq (show m<=c2/\m<=10000 from by omega);have HG:=zq h1;clear hA2 hc2 h1 h2 h3 h4 hs hm hb hk hn;go_enter Tryz.func125,Tryz.ntmps125;go_wp2_with (with_reducible refine qap (o:=⟨none,_,_,_,_,_⟩) rfl 22 _ _ rfl (g) 0 (.slice A2 m c2) rfl rfl 172 #[.slice A n c] HG.out (Nat.le_of_ble_eq_true rfl) (by kernel_rfl) rfl #[.slice A2 m c2] rfl ?_);go_end0
 exact⟨rfl,⟨A2,m,c2,qaa HG.out _,HS.out,HC.out.1,HC.out.2⟩,qal _ _ _⟩
theorem oprdsec_any (V U:List Int)(hV:SecSh V U)(g:Nat)(wb W:World)(h:NumR wb W g V)(hb:Below wb.heap.size wb W)(hg:wb.heap.size<=g):
  Calls Tryz.prog 126 #[(.func (.func 124) #[.pointer (some ⟨g,0,none⟩)] #[])] W fun r W'=>r= .returned (.tuple #[.int .i64 (qb7 V).1,.int .i64 (qb7 V).2.1,.int .i64 (qb7 V).2.2])/\((qb7 V).2.2=0->NumR wb W' g U)/\W.grownBy W' (some g):=by
 obtain⟨x,q,hx,hV⟩:=hV;obtain⟨R,hR⟩:=geZ (qb7 V);rw[hR];have HR:=zq hR;have HN0:=zq h;have HB0:=zq hb;have HG:=zq hg;clear hR h hb hg
 rcases hV with⟨rfl,rfl⟩|⟨rfl,a,b,ha,rfl⟩
 ·have HF:=zq (show R=(0,0,20)from by rw[<-HR.out];exact if_pos (by simp))
  clear HR hx;go_enter Tryz.func126,Tryz.ntmps126;go_wp2_with fail;refine(qay x (0::U) g wb W HN0.out HB0.out HG.out).mono ?_;rintro e_ w1 ⟨rfl,hn_,hg_⟩;have HN1:=zq hn_;have HW1:=zq (hg_);have HB1:=zq (qaj HB0.out hg_ HB0.out.size HG.out);clear hn_ hg_;go_wp2_with fail;refine(qay 0 U g wb w1 HN1.out HB1.out HG.out).mono ?_;rintro e_ w2 ⟨rfl,hn_,hg_⟩;have HN2:=zq hn_;have HW2:=zq (qam HW1.out hg_);have HB2:=zq (qaj HB1.out hg_ HB1.out.size HG.out);clear hn_ hg_;go_wp2;go_ret3
  exact⟨by rw[HF.out];rfl,fun h_=>by rw[HF.out]at h_;exact absurd h_ (by decide),HW2.out⟩
 ·have HRR:=zq (show(if a<1\/1000<a\/x=0 then((0,0,20):Int×Int×Int)else if 32766<x then(0,0,7)else(x,a,0))=R from HR.out)
  have HT:=zq (fun W=>qfx a W);clear HR;go_enter Tryz.func126,Tryz.ntmps126;go_wp2_with fail;refine(qay x (1::a::b::U) g wb W HN0.out HB0.out HG.out).mono ?_;rintro e_ w1 ⟨rfl,hn_,hg_⟩;have HN1:=zq hn_;have HW1:=zq (hg_);have HB1:=zq (qaj HB0.out hg_ HB0.out.size HG.out);clear hn_ hg_;go_wp2_with fail;refine(qay 1 (a::b::U) g wb w1 HN1.out HB1.out HG.out).mono ?_;rintro e_ w2 ⟨rfl,hn_,hg_⟩;have HN2:=zq hn_;have HW2:=zq (qam HW1.out hg_);have HB2:=zq (qaj HB1.out hg_ HB1.out.size HG.out);clear hn_ hg_;go_wp2_with fail;refine(qay a (b::U) g wb w2 HN2.out HB2.out HG.out).mono ?_;rintro e_ w3 ⟨rfl,hn_,hg_⟩;have HN3:=zq hn_;have HW3:=zq (qam HW2.out hg_);have HB3:=zq (qaj HB2.out hg_ HB2.out.size HG.out);clear hn_ hg_;go_wp2_with fail;refine(qay b U g wb w3 HN3.out HB3.out HG.out).mono ?_;rintro e_ w4 ⟨rfl,hn_,hg_⟩;have HN4:=zq hn_;have HW4:=zq (qam HW3.out hg_);have HB4:=zq (qaj HB3.out hg_ HB3.out.size HG.out);clear hn_ hg_;obtain⟨tb,htb⟩: ∃q,(decide (1<=a) &&decide (a<=1000))=q:=⟨_,rfl⟩
  rw[htb]at HT;go_wp2_with fail;refine(HT.out w4).mono ?_;rintro e_ w4' ⟨rfl,rfl⟩
  cases tb with
  |false=>
   have HF:=zq (show R=(0,0,20)from by rw[<-HRR.out];refine if_pos ?_;simp only[Bool.and_eq_false_iff,decide_eq_false_iff_not]at htb;omega);clear htb;go_wp2;go_ret3
   exact⟨by rw[HF.out];rfl,fun h_=>by rw[HF.out]at h_;exact absurd h_ (by decide),HW4.out⟩
  |true=>
   by_cases z:x=0
   ·have z1:(x==0)=true:=by simp[z]
    have HF:=zq (show R=(0,0,20)from by rw[<-HRR.out];exact if_pos (Or.inr (Or.inr z)));clear htb z;go_wp2;go_ret3
    exact⟨by rw[HF.out];rfl,fun h_=>by rw[HF.out]at h_;exact absurd h_ (by decide),HW4.out⟩
   ·have z1:(x==0)=false:=by simp[z]
    have hne: ¬(a<1\/1000<a\/x=0):=by simp only[Bool.and_eq_true,decide_eq_true_eq]at htb;omega
    by_cases z2:32766<x
    ·have z3:decide (32766<x)=true:=decide_eq_true z2
     have HF:=zq (show R=(0,0,7)from by rw[<-HRR.out,if_neg hne,if_pos z2]);clear htb z hne;go_wp2;go_ret3
     exact⟨by rw[HF.out];rfl,fun h_=>by rw[HF.out]at h_;exact absurd h_ (by decide),HW4.out⟩
    ·have z3:decide (32766<x)=false:=decide_eq_false z2
     have HF:=zq (show R=(x,a,0)from by rw[<-HRR.out,if_neg hne,if_neg z2]);clear htb z hne;go_wp2;go_ret3
     exact⟨by rw[HF.out];rfl,fun _=>HN4.out,HW4.out⟩
theorem oprdgap_any (V:List Int)(hV:GapSh V)(g:Nat)(wb W:World)(h:NumR wb W g V)(hb:Below wb.heap.size wb W)(hg:wb.heap.size<=g):
  Calls Tryz.prog 127 #[.pointer (some ⟨g,0,none⟩)] W fun r W'=>r= .returned (.tuple #[.int .i64 (qeI V).1,.int .i64 (qeI V).2])/\W.grownBy W' (some g):=by
 obtain⟨q,p,S,hp,hV,hS⟩:=hV;obtain⟨R,hR⟩:=geZ (qeI V);rw[hR];have HR:=zq hR;have HN0:=zq h;have HB0:=zq hb;have HG:=zq hg;clear hR h hb hg
 rcases hV with⟨rfl,rfl⟩|⟨rfl,a,b,rfl⟩
 ·have HRR:=zq (show(if p=0 then((0,0):Int×Int)else if 32766<S.getD 0 0 then(0,7)else(S.getD 0 0,0))=R from HR.out)
  clear HR;go_enter Tryz.func127,Tryz.ntmps127;go_wp2_with fail;refine(qay 0 (p::S) g wb W HN0.out HB0.out HG.out).mono ?_;rintro e_ w1 ⟨rfl,hn_,hg_⟩;have HN1:=zq hn_;have HW1:=zq (hg_);have HB1:=zq (qaj HB0.out hg_ HB0.out.size HG.out);clear hn_ hg_;by_cases z:p=0
  ·subst z
   have HF:=zq (show R=(0,0)from HRR.out.symm.trans (if_pos rfl));clear HRR hS hp;go_wp2_with fail;refine(qay 0 S g wb w1 HN1.out HB1.out HG.out).mono ?_;rintro e_ wx ⟨rfl,hn_,hg_⟩;have HN2:=zq hn_;have HW2:=zq (qam HW1.out hg_);have HB2:=zq (qaj HB1.out hg_ HB1.out.size HG.out);clear hn_ hg_;go_wp2;go_ret2
   exact⟨by rw[HF.out];rfl,HW2.out⟩
  ·obtain rfl:p=1:=by omega
   obtain⟨gp,zz,S2,hgp,rfl⟩:=hS rfl;have HRR:=zq (show(if 32766<gp then((0,7):Int×Int)else(gp,0))=R from HRR.out);clear hS hp z;go_wp2_with fail;refine(qay 1 (gp::zz::S2) g wb w1 HN1.out HB1.out HG.out).mono ?_;rintro e_ wx ⟨rfl,hn_,hg_⟩;have HN2:=zq hn_;have HW2:=zq (qam HW1.out hg_);have HB2:=zq (qaj HB1.out hg_ HB1.out.size HG.out);clear hn_ hg_;go_wp2_with fail;refine(qay gp (zz::S2) g wb wx HN2.out HB2.out HG.out).mono ?_;rintro e_ wy ⟨rfl,hn_,hg_⟩;have HN3:=zq hn_;have HW3:=zq (qam HW2.out hg_);have HB3:=zq (qaj HB2.out hg_ HB2.out.size HG.out);clear hn_ hg_;by_cases z2:32766<gp
   ·have z3:decide (32766<gp)=true:=decide_eq_true z2
    have HF:=zq (HRR.out.symm.trans (if_pos z2));clear HRR;go_wp2;go_ret2
    exact⟨by rw[HF.out];rfl,HW3.out⟩
   ·have z3:decide (32766<gp)=false:=decide_eq_false z2
    have HF:=zq (HRR.out.symm.trans (if_neg z2));clear HRR;go_wp2;go_ret2
    exact⟨by rw[HF.out];rfl,HW3.out⟩
 ·have HRR:=zq (show(if p=0 then((0,0):Int×Int)else if 32766<S.getD 0 0 then(0,7)else(S.getD 0 0,0))=R from HR.out)
  clear HR;go_enter Tryz.func127,Tryz.ntmps127;go_wp2_with fail;refine(qay 1 (a::b::p::S) g wb W HN0.out HB0.out HG.out).mono ?_;rintro e_ w1 ⟨rfl,hn_,hg_⟩;have HN1:=zq hn_;have HW1:=zq (hg_);have HB1:=zq (qaj HB0.out hg_ HB0.out.size HG.out);clear hn_ hg_;go_wp2_with fail;refine(qbX (a::b::p::S) 2 (by simp) g wb w1 HN1.out HB1.out HG.out).mono ?_;rintro e_ w2 ⟨rfl,hn_,hg_⟩;have HN2:=zq (show NumR wb w2 g (p::S)from hn_);have HW2:=zq (qam HW1.out hg_);have HB2:=zq (qaj HB1.out hg_ HB1.out.size HG.out);clear hn_ hg_;by_cases z:p=0
  ·subst z
   have HF:=zq (show R=(0,0)from HRR.out.symm.trans (if_pos rfl));clear HRR hS hp;go_wp2_with fail;refine(qay 0 S g wb w2 HN2.out HB2.out HG.out).mono ?_;rintro e_ wx ⟨rfl,hn_,hg_⟩;have HN3:=zq hn_;have HW3:=zq (qam HW2.out hg_);have HB3:=zq (qaj HB2.out hg_ HB2.out.size HG.out);clear hn_ hg_;go_wp2;go_ret2
   exact⟨by rw[HF.out];rfl,HW3.out⟩
  ·obtain rfl:p=1:=by omega
   obtain⟨gp,zz,S2,hgp,rfl⟩:=hS rfl;have HRR:=zq (show(if 32766<gp then((0,7):Int×Int)else(gp,0))=R from HRR.out);clear hS hp z;go_wp2_with fail;refine(qay 1 (gp::zz::S2) g wb w2 HN2.out HB2.out HG.out).mono ?_;rintro e_ wx ⟨rfl,hn_,hg_⟩;have HN3:=zq hn_;have HW3:=zq (qam HW2.out hg_);have HB3:=zq (qaj HB2.out hg_ HB2.out.size HG.out);clear hn_ hg_;go_wp2_with fail;refine(qay gp (zz::S2) g wb wx HN3.out HB3.out HG.out).mono ?_;rintro e_ wy ⟨rfl,hn_,hg_⟩;have HN4:=zq hn_;have HW4:=zq (qam HW3.out hg_);have HB4:=zq (qaj HB3.out hg_ HB3.out.size HG.out);clear hn_ hg_;by_cases z2:32766<gp
   ·have z3:decide (32766<gp)=true:=decide_eq_true z2
    have HF:=zq (HRR.out.symm.trans (if_pos z2));clear HRR;go_wp2;go_ret2
    exact⟨by rw[HF.out];rfl,HW4.out⟩
   ·have z3:decide (32766<gp)=false:=decide_eq_false z2
    have HF:=zq (HRR.out.symm.trans (if_neg z2));clear HRR;go_wp2;go_ret2
    exact⟨by rw[HF.out];rfl,HW4.out⟩
end
section
open Go.RowKit
open Go.Great
def rsJ (acc:List Sc3)(r:List Sc3×List Int×Int):List Sc3×List Int×Int:=if r.2.2≠0 then([],[],r.2.2)else(acc++r.1,r.2.1,0)
def rsecE (V:List Int)(rev:Bool):List Sc3×Int×Int:=
 if V.getD 0 0≠dirB rev then([],0,20)
 else if 7<V.getD 4 0 then([],0,2)
 else
  let s:=qar (V.getD 1 0) (V.getD 4 0+1).toNat 0 (V.drop 5)
  if s.2.2≠0 then([],0,s.2.2)else(s.1,(gapE s.2.1 (V.getD 1 0)).1,(gapE s.2.1 (V.getD 1 0)).2)
theorem rs_nil17 {u to_:Int}{k:Nat}{V:List Int}{T:List Sc3×List Int×Int}(h:qar u k to_ V=T)(hT:T.2.2≠0):T.1=[]/\T.2.1=[]:=by
 subst h
 cases k with
 |zero=>exact absurd rfl hT
 |succ k=>
  rw[qar]at hT⊢;split
  ·exact⟨rfl,rfl⟩
  ·rename_i h1
   rw[if_neg h1]at hT;split
   ·exact⟨rfl,rfl⟩
   ·rename_i h2
    rw[if_neg h2]at hT;split
    ·exact⟨rfl,rfl⟩
    ·rename_i h3
     rw[if_neg h3]at hT;dsimp only at hT⊢;split
     ·exact⟨rfl,rfl⟩
     ·rename_i h4
      rw[if_neg h4]at hT;exact absurd rfl hT
theorem unit_two17 {u:Int}(h:0<=u/\u<=2):qaU u=1\/qaU u=10\/qaU u=100:=by
 unfold qaU;by_cases h0:u=0
 ·rw[if_pos h0];exact .inl rfl
 ·by_cases h1:u=1
  ·rw[if_neg h0,if_pos h1];exact .inr (.inl rfl)
  ·rw[if_neg h0,if_neg h1,if_pos (by omega)];exact .inr (.inr rfl)
theorem dm_at17 {x u:Int}(hu:0<=u/\u<=2)(hx:0<=x):dmOf x u=if 32766<x then(0,7)else(x*qaU u,0):=by
 have h:=unit_two17 hu;unfold dmOf;rw[if_neg (by omega)];by_cases h2:32766<x
 ·rw[if_pos (Or.inr h2),if_pos h2]
 ·rw[if_neg (by omega),if_neg h2]
theorem secs_step17 {u to_:Int}{k:Nat}{V U:List Int}(acc:List Sc3)(hu:0<=u/\u<=2)(h:SecSh V U):
  rsJ acc (qar u (k+1) to_ V)=if(qb7 V).2.2≠0 then([],[],(qb7 V).2.2)else rsJ (acc++[⟨to_+(qb7 V).1*qaU u,(qb7 V).2.1⟩]) (qar u k (to_+(qb7 V).1*qaU u) U):=by
 obtain⟨x,q,hx,hV⟩:=h;have hd:=dm_at17 hu hx.1
 rcases hV with⟨rfl,rfl⟩|⟨rfl,a,b,ha,rfl⟩
 ·have e1:qb7 (x::0::U)=(0,0,20):=if_pos (by simp)
  rw[e1,qar,if_pos (by simp),if_pos (by simp)]
  rfl
 ·have e1:qb7 (x::1::a::b::U)=if a<1\/1000<a\/x=0 then(0,0,20)else if 32766<x then(0,0,7)else(x,a,0):=rfl
  rw[qar,if_neg (by simp)];show rsJ acc (if a<1\/1000<a\/x=0 then([],[],20)else if(dmOf x u).2≠0 then([],[],7)else
   let r:=qar u k (to_+(dmOf x u).1) U
   if r.2.2≠0 then([],[],r.2.2)else(⟨to_+(dmOf x u).1,a⟩::r.1,r.2.1,0))=_
  by_cases h1:a<1\/1000<a\/x=0
  ·rw[if_pos h1]at e1⊢
   rw[e1]
   rfl
  ·rw[if_neg h1]at e1⊢
   by_cases h2:32766<x
   ·rw[if_pos h2]at e1 hd
    rw[e1,hd]
    rfl
   ·rw[if_neg h2]at e1 hd
    rw[e1,hd];dsimp only;rw[if_neg (show¬((0:Int)≠0)from fun h=>h rfl),if_neg (show¬((0:Int)≠0)from fun h=>h rfl)];generalize qar u k (to_+x*qaU u) U=r;obtain⟨r1,r2,r3⟩:=r;unfold rsJ;dsimp only;by_cases h3:r3=0
    ·simp[h3]
    ·simp[h3]
theorem sec_rng17 {V U:List Int}(h:SecSh V U):0<=(qb7 V).1/\(qb7 V).1<=32766:=by
 obtain⟨x,q,hx,hV⟩:=h;unfold qb7;split
 ·exact⟨Int.le_refl _,by decide⟩
 ·split
  ·exact⟨Int.le_refl _,by decide⟩
  ·split
   ·exact⟨Int.le_refl _,by decide⟩
   ·rename_i h1 h2 h3
    rcases hV with⟨rfl,rfl⟩|⟨rfl,a,b,ha,rfl⟩
    ·exact⟨hx.1,by simpa using h3⟩
    ·exact⟨hx.1,by simpa using h3⟩
theorem gap_at17 {u:Int}{V:List Int}(hu:0<=u/\u<=2)(h:GapSh V):gapE V u=((qeI V).1*qaU u,(qeI V).2)/\0<=(qeI V).1/\(qeI V).1<=32766:=by
 have key: ∀(p:Int) (S:List Int),(0<=p/\p<=1)->(p=1-> ∃g z S2,(0<=g/\g<=32767)/\S=g::z::S2)->
   (if p≠1 then((0,0):Int×Int)else if(dmOf (S.getD 0 0) u).2≠0 then(0,7)else((dmOf (S.getD 0 0) u).1,0))=
    ((if p=0 then((0,0):Int×Int)else if 32766<S.getD 0 0 then(0,7)else(S.getD 0 0,0)).1*qaU u,(if p=0 then((0,0):Int×Int)else if 32766<S.getD 0 0 then(0,7)else(S.getD 0 0,0)).2)/\
   0<=(if p=0 then((0,0):Int×Int)else if 32766<S.getD 0 0 then(0,7)else(S.getD 0 0,0)).1/\(if p=0 then((0,0):Int×Int)else if 32766<S.getD 0 0 then(0,7)else(S.getD 0 0,0)).1<=32766:=by
  intro p S hp hS;by_cases h0:p=0
  ·subst h0
   rw[if_pos (by decide),if_pos rfl];exact⟨by simp,Int.le_refl _,by decide⟩
  ·obtain rfl:p=1:=by omega
   obtain⟨g,z,S2,hg,rfl⟩:=hS rfl;have hd:=dm_at17 hu hg.1;show(if(1:Int)≠1 then((0,0):Int×Int)else if(dmOf g u).2≠0 then(0,7)else((dmOf g u).1,0))=
    ((if(1:Int)=0 then((0,0):Int×Int)else if 32766<g then(0,7)else(g,0)).1*qaU u,(if(1:Int)=0 then((0,0):Int×Int)else if 32766<g then(0,7)else(g,0)).2)/\0<=(if(1:Int)=0 then((0,0):Int×Int)else if 32766<g then(0,7)else(g,0)).1/\(if(1:Int)=0 then((0,0):Int×Int)else if 32766<g then(0,7)else(g,0)).1<=32766
   have a1: ∀(α:Type) (x y:α),(if(1:Int)≠1 then x else y)=y:=fun _ _ _=>if_neg (by decide);have a2: ∀(α:Type) (x y:α),(if(1:Int)=0 then x else y)=y:=fun _ _ _=>if_neg (by decide);rw[a1,a2,hd];by_cases h2:32766<g
   ·rw[if_pos h2,if_pos h2]
    exact⟨by simp,Int.le_refl _,by show(0:Int)<=32766;decide⟩
   ·rw[if_neg h2,if_neg h2]
    exact⟨by simp,hg.1,by show g<=32766;omega⟩
 obtain⟨q,p,S,hp,hV,hS⟩:=h
 rcases hV with⟨rfl,rfl⟩|⟨rfl,a,b,rfl⟩
 ·exact key p S hp hS
 ·exact key p S hp hS
theorem oprdsecs_any (id:Int)(A:Option Addr)(n c:Nat)(V:List Int)(rev:Bool)(w:World)(hV:SlI w.heap.size w A n c V)(hn:n<=10000)(hok:qaV (15,V)=true):
  Calls Tryz.prog 64 #[.agg #[.int .i64 id,.slice A n c],.bool rev] w fun r w'=> ∃(B:Option Addr) (m d:Nat) (G:Int),r= .returned (.tuple #[.slice B m d,.int .i64 G,.int .i64 (rsecE V rev).2.2])/\((rsecE V rev).2.2=0->G=(rsecE V rev).2.1/\OwR scC17 2 66 w.heap.size w' B m d (rsecE V rev).1)/\m<=8/\Below w.heap.size w w':=by
 obtain⟨R,hR⟩:=geZ (rsecE V rev);rw[hR];obtain⟨vd,u,v2,v3,nn,R0,R1,rfl,hd,hu,hn4,hrep,hgap⟩:=qfe hok;have HR:=zq hR;obtain⟨N,hN⟩: ∃N:Nat,nn=(N:Int):=⟨nn.toNat,by omega⟩
 subst hN;rw[show((N:Int).toNat+1)=N+1 by omega]at hrep;have hSO:SlO inC 1 w A n c (vd::u::v2::v3::(N:Int)::R0):=⟨hV.len,by rw[qdE];exact hV.sl⟩
 have hVc:=hV.cap;clear hR hok hV hd;obtain⟨wa,hwa,hbwa,HWA,HBWA,h0⟩:=bx1Z w 98 #[.int .i64 id,.slice A n c];have p1:wa.cell? ⟨w.heap.size,1,none⟩=some (.slice A n c):=h0.cell 1;obtain⟨wb,hwb⟩: ∃u,wa.alloc (.cells #[.slice A n c] 172)=u:=⟨_,rfl⟩
 have hbb:Below wa.heap.size wa wb:=by rw[<-hwb];exact bA
 have hHb:Has wb wa.heap.size 172 #[.slice A n c]:=by rw[<-hwb];exact Has.made _ _ _
 obtain⟨g,hg⟩:=geZ (wa.heap.size);rw[hg]at hHb;have HN0:=zq (show NumR wa wb g (vd::u::v2::v3::(N:Int)::R0)from⟨A,n,c,hHb,fun W' hW=>(hSO.under hbwa).under hW,hVc,hn⟩);have HG:=zq (show wa.heap.size<=g from Nat.le_of_eq hg);have HB0:=zq hbb;have HWB:=zq hwb;have HGQ:=zq hg;have HSH:=zq (show(0<=u/\u<=2)/\(0<=(N:Int)/\(N:Int)<=31)from⟨hu,hn4⟩);have HRP:=zq hrep;have HGP:=zq hgap;clear hwa hbwa h0 hwb hbb hHb hg hSO hVc hn hu hn4 hrep hgap;go_enter Tryz.func64,Tryz.ntmps64;go_upto_region 1 with fail;rw[HWA.out];clear HWA;go_upto_region 2 with fail;rw[HWB.out];simp only[HGQ.out];clear HWB HGQ p1;go_wp2_with fail;refine(qay vd (u::v2::v3::(N:Int)::R0) g wa wb HN0.out HB0.out HG.out).mono ?_;rintro e_ w1 ⟨rfl,hn_,hg_⟩;have HN1:=zq hn_;have HB1:=zq (qaj HB0.out hg_ HB0.out.size HG.out);clear hn_ hg_;obtain⟨DR,hDR⟩: ∃d,dirB rev=d:=⟨_,rfl⟩
 have HDI:=zq (fun W=>qfw rev W);rw[hDR]at HDI;have HDR:=zq hDR;clear hDR;go_wp2_with fail;refine(HDI.out w1).mono ?_;rintro e_ w1' ⟨rfl,hq1⟩;subst hq1;by_cases z:vd=DR;rotate_left
 ·have z1:(vd !=DR)=true:=by simp[z]
  have HF:=zq (show R=([],0,20)from by rw[<-HR.out];exact if_pos (by rw[HDR.out];exact z));clear z;go_wp2;go_ret3
  exact⟨none,0,0,0,by rw[HF.out];rfl,fun h_=>by rw[HF.out]at h_;exact absurd h_ (by decide),by omega,HBWA.out.trans (HB1.out.mono HBWA.out.size)⟩
 have z1:(vd !=DR)=false:=by simp[z]
 have HR:=zq (show(if 7<(N:Int)then(([],0,2):List Sc3×Int×Int)else let s:=qar u ((N:Int)+1).toNat 0 R0;if s.2.2≠0 then([],0,s.2.2)else(s.1,(gapE s.2.1 u).1,(gapE s.2.1 u).2))=R from by rw[<-HR.out];exact(if_neg (by rw[HDR.out];exact fun h_=>h_ z)).symm);clear z HDI HDR;go_upto_region 4 with fail;clear z1;go_wp2_with fail;refine(qay u (v2::v3::(N:Int)::R0) g wa w1' HN1.out HB1.out HG.out).mono ?_;rintro e_ w2 ⟨rfl,hn_,hg_⟩;have HN2:=zq hn_;have HB2:=zq (qaj HB1.out hg_ HB1.out.size HG.out);clear hn_ hg_;have HUN:=zq (fun W=>unit_any u W);obtain⟨un,hun⟩: ∃x,qaU u=x:=⟨_,rfl⟩
 rw[hun]at HUN;have HU:=zq (show un=1\/un=10\/un=100 from by rw[<-hun];exact unit_two17 HSH.out.1);have HUE:=zq hun;clear hun;go_wp2_with fail;refine(HUN.out w2).mono ?_;rintro e_ w2' ⟨rfl,hq2⟩;subst hq2;clear HUN;go_wp2_with fail;refine(qbX (v2::v3::(N:Int)::R0) 2 (by simp) g wa w2 HN2.out HB2.out HG.out).mono ?_;rintro e_ w3 ⟨rfl,hn_,hg_⟩;have HN3:=zq (show NumR wa w3 g ((N:Int)::R0)from hn_);have HB3:=zq (qaj HB2.out hg_ HB2.out.size HG.out);clear hn_ hg_ HN1 HB1 HN2 HB2 HN0 HB0;go_wp2_with fail;refine(qay (N:Int) R0 g wa w3 HN3.out HB3.out HG.out).mono ?_;rintro e_ w4 ⟨rfl,hn_,hg_⟩;have HN4:=zq hn_;have HB4:=zq (qaj HB3.out hg_ HB3.out.size HG.out);clear hn_ hg_;by_cases z:7<N
 ·have z1:decide ((N:Int)≥8)=true:=decide_eq_true (by omega)
  have z2:decide ((8:Int)<=N)=true:=decide_eq_true (by omega);have z3:(8:Int)<=N:=by omega
  have z4:8<=N:=by omega
  have HF:=zq (HR.out.symm.trans (if_pos (by omega)));clear z;go_wp2;go_ret3
  exact⟨none,0,0,0,by rw[HF.out];rfl,fun h_=>by rw[HF.out]at h_;exact absurd h_ (by decide),by omega,HBWA.out.trans (HB4.out.mono HBWA.out.size)⟩
 have z1:decide ((N:Int)≥8)=false:=decide_eq_false (by omega);have z2:decide ((8:Int)<=N)=false:=decide_eq_false (by omega);have z3: ¬(8:Int)<=N:=by omega
 have z4: ¬8<=N:=by omega
 have HN7:=zq (show N<=7 from by omega);have hn7:N<=7:=by omega
 obtain⟨T,hT⟩:=geZ (qar u (N+1) 0 R0);have HR:=zq (show(if T.2.2≠0 then(([],0,T.2.2):List Sc3×Int×Int)else(T.1,(gapE T.2.1 u).1,(gapE T.2.1 u).2))=R from by have h_:=HR.out.symm.trans (if_neg (show¬7<(N:Int) by omega));rw[show((N:Int)+1).toNat=N+1 by omega,hT]at h_;exact h_.symm);have HT:=zq hT;obtain⟨N1,hN1⟩: ∃q,N+1=q:=⟨_,rfl⟩
 have hw1:wrap64 ((N:Int)+1)=(N1:Int):=succ_w hN1 (by omega);have HNQ:=zq hN1;rw[hN1]at HRP HT;have HN8:=zq (show N1<=8 from by omega);have hn8:N1<=8:=by omega
 clear z hT hN1 HN3 HB3;go_upto_region 11 with fail;clear z1 z2 z3 z4;go_wp2;clear hw1 hn7;go_loopg [10,11,32] N1 (fun kk v10 v11 v32 wl=> ∃(i:Nat) (B:Option Addr) (d:Nat) (acc:List Sc3) (tz:Int) (W:List Int),i<=N1/\N1-i<=kk/\v32= .int .i64 i/\v11= .slice B i d/\v10= .int .i64 tz/\Hid (OwR scC17 2 66 wa.heap.size wl B i d acc)/\Hid (0<=tz/\tz<=i*3276600)/\Hid (NumR wa wl g W)/\Hid (ShRep SecSh (N1-i) W R1)/\Hid (rsJ acc (qar u (N1-i) tz W)=T)/\Hid (Below wa.heap.size wa wl))
 case atStart=>exact⟨0,none,0,[],0,R0,by omega,by omega,rfl,rfl,rfl,zq (OwR.nil _ _ _ _ _),zq (by omega),HN4,HRP,zq (by rw[Nat.sub_zero,HT.out];unfold rsJ;split;exact Prod.ext (rs_nil17 HT.out (by assumption)).1.symm (Prod.ext (rs_nil17 HT.out (by assumption)).2.symm rfl);exact Prod.ext rfl (Prod.ext rfl (by show(0:Int)=T.2.2;omega))),HB4⟩
 clear HRP HT HN4 HB4;obtain⟨i,B,d,acc,tz,W,hi,hik,rfl,rfl,rfl,HO,HTZ,HNW,HRP,HRJ,HB⟩:=hrel;obtain⟨k1,hk1⟩: ∃k1,k1=gk:=⟨_,rfl⟩
 subst hk1;obtain⟨wv,hwv⟩: ∃wv,wv=wr:=⟨_,rfl⟩
 subst hwv;have hn8:=HN8.out;by_cases hlt:i<N1;rotate_left
 ·obtain rfl:i=N1:=by omega
  have hsh:=HRP.out;rw[Nat.sub_self]at hsh;obtain rfl:R1=W:=hsh;obtain⟨hga,hgb⟩:=gap_at17 HSH.out.1 HGP.out;have HTT:=zq (show T=(acc,R1,0)from by have h_:=HRJ.out;rw[Nat.sub_self]at h_;rw[<-h_];show rsJ acc ([],R1,0)=_;unfold rsJ;simp);obtain⟨gq,hgq⟩: ∃q,qeI R1=q:=⟨_,rfl⟩
  rw[hgq,HUE.out]at hga;rw[hgq]at hgb;obtain⟨g1,g2⟩:=gq;dsimp only at hga hgb;have HF:=zq (show R=(acc,g1*un,g2)from by rw[<-HR.out,HTT.out];dsimp only;rw[if_neg (by simp),hga]);have HRG:=zq (oprdgap_any R1 HGP.out g wa wv HNW.out HB.out HG.out);rw[hgq]at HRG;obtain⟨G,hG⟩: ∃q,g1*un=q:=⟨_,rfl⟩
  have hw1:IntKind.i64.wrap (g1*un)=G:=by rw[IntKind.wrap_i64];rcases HU.out with h_|h_|h_<;>subst h_<;>omega
  have HGE:=zq hG;have y1: ¬(i:Int)<i:=by omega
  have y2: ¬(i:Int)<(N:Int)+1:=by have:=HNQ.out;omega
  have y3: ¬i<N+1:=by have:=HNQ.out;omega
  clear hgq hga hgb hG HR HRP HRJ;go_wp2_with fail;refine HRG.out.mono ?_;rintro e_ w5 ⟨rfl,hg5⟩;have HO5:=zq (HO.out.kept hg5 (.inr (by obtain⟨A_,n_,c_,hh_,_⟩:=HNW.out;exact HO.out.apart hh_ (by decide))));have HB5:=zq (qaj HB.out hg5 HB.out.size HG.out);clear hg5 HRG HO HB HNW;go_wp2;go_ret3
  exact⟨B,i,d,G,by rw[HF.out];rfl,fun _=>⟨by rw[HF.out];exact HGE.out.symm,by rw[HF.out];exact HO5.out.to_base HBWA.out.size⟩,hn8,HBWA.out.trans (HB5.out.mono HBWA.out.size)⟩
 ·obtain⟨r,hr⟩: ∃r,N1-i=r+1:=⟨N1-i-1,by omega⟩
  have hsh:=HRP.out;rw[hr]at hsh;obtain⟨U,hVU,hUR⟩:=hsh;have hst:=secs_step17 (k:=r) (to_:=tz) acc HSH.out.1 hVU;have hrj:=HRJ.out;rw[hr,hst,HUE.out]at hrj;have hrg:=sec_rng17 hVU;have HRS:=zq (oprdsec_any W U hVU g wa wv HNW.out HB.out HG.out);obtain⟨sq,hsq⟩: ∃q,qb7 W=q:=⟨_,rfl⟩
  rw[hsq]at hrj hrg HRS;obtain⟨s1,s2,s3⟩:=sq;dsimp only at hrj hrg HRS;have x1:(i:Int)<N1:=by omega
  have x1b:(i:Int)<(N:Int)+1:=by have:=HNQ.out;omega
  have x1c:i<N+1:=by have:=HNQ.out;omega
  have x2:(0:Int)<=i:=by omega
  have HIN:=zq (show i<N1/\N1-i<=k1/\N1-(i+1)=r/\N1<=8 from⟨hlt,hik,by omega,hn8⟩);have HUR:=zq hUR;have HRJ:=zq hrj;have HRG:=zq hrg;have hmf: ∀(fn:Fn) (first cap:Array Value) (w:World),(Instr.makeFunc fn first cap).run Tryz.prog w= .ok (.func fn first cap) w:=fun _ _ _ _=>rfl;clear hr hst hrj hrg hsq HRP hi hik hlt hn8;go_wp2_with fail;refine HRS.out.mono ?_;rintro e_ w5 ⟨rfl,hnw,hg5⟩;have HNU:=zq hnw;have HO5:=zq (HO.out.kept hg5 (.inr (by obtain⟨A_,n_,c_,hh_,_⟩:=HNW.out;exact HO.out.apart hh_ (by decide))));have HB5:=zq (qaj HB.out hg5 HB.out.size HG.out);clear hg5 hnw HRS HO HB HNW hmf;by_cases z:s3=0;rotate_left
  ·have z1:(s3 !=0)=true:=by simp[z]
   have HTT:=zq (show T=([],[],s3)from HRJ.out.symm.trans (if_pos z));have HF:=zq (show R=([],0,s3)from by rw[<-HR.out,HTT.out];exact if_pos z);have HZ:=zq z;clear z;go_wp2;go_ret3
   exact⟨none,0,0,0,by rw[HF.out];rfl,fun h_=>by rw[HF.out]at h_;exact absurd h_ HZ.out,by omega,HBWA.out.trans (HB5.out.mono HBWA.out.size)⟩
  ·subst z
   have z1:((0:Int) !=0)=false:=rfl;obtain⟨D,hD⟩: ∃q,s1*un=q:=⟨_,rfl⟩
   have hDB:0<=D/\D<=3276600:=by have h2_:=HRG.out;rw[<-hD];rcases HU.out with h_|h_|h_<;>subst h_<;>omega
   have hw1:IntKind.i64.wrap (s1*un)=D:=by rw[hD,IntKind.wrap_i64];omega
   obtain⟨Z,hZ⟩: ∃q,tz+D=q:=⟨_,rfl⟩
   have HZB:=zq (show 0<=Z/\Z<=(i+1:Nat)*3276600 from by have h2_:=HTZ.out;omega);have hw2:IntKind.i64.wrap (tz+D)=Z:=by rw[IntKind.wrap_i64];have h2_:=HTZ.out;have h3_:=HIN.out;omega
   have HRJ:=zq (show rsJ (acc++[⟨Z,s2⟩]) (qar u r Z U)=T from by rw[<-HRJ.out,if_neg (by simp),hD,hZ]);have HNV:=zq (show NumR wa w5 g U from HNU.out (by first|rfl|trivial));have hib:=HIN.out.1;have hnb:=HIN.out.2.2.2;clear hD hDB hZ HRG;obtain⟨hO,hSL,h1,hBD⟩:=pourR 16 (HO5.out.under ((Below.refl _ _).alloc (Nat.le_refl _) (.cells #[.int .i64 Z,.int .i64 s2] 66))) (⟨rfl,qa7 (Has.made _ _ _) rfl⟩:SlO scC17 2 (w5.alloc (.cells #[.int .i64 Z,.int .i64 s2] 66)) (some ⟨w5.heap.size,0,none⟩) 1 1 [⟨Z,s2⟩]) qdZ (Nat.le_trans HB5.out.size (by simp)) (by omega) (by omega);go_wp2_with (with_reducible refine qaG (o:=⟨some 53,_,_,_,_,_⟩) rfl (.tmp 48) (.tmp 52) 36 rfl wa.heap.size 66 (.agg #[.int .i64 0,.int .i64 0]) 2 16 Tryz.underlying36 qcf ?hz1 (by decide) B i d _ ?hs1 hO (some ⟨w5.heap.size,0,none⟩) 1 1 _ ?hx1 hSL h1 hBD ?next1)
   all_goals try rfl
   intro B6 d6 w6 ho6 hg6;have HO6:=zq (show OwR scC17 2 66 wa.heap.size w6 B6 (i+1) d6 (acc++[⟨Z,s2⟩])from OwR.poured (l':=[⟨Z,s2⟩]) HO5.out.2 rfl ho6.out);have HB6:=zq (qai (HB5.out.trans ((bA).mono HB5.out.size)) (Nat.le_trans HB5.out.size (by simp)) hO.out (Nat.le_refl _) rfl hg6.out);have HN6:=zq ((HNV.out.under ((Below.refl _ _).alloc (Nat.le_refl _) (.cells #[.int .i64 Z,.int .i64 s2] 66))).grow hg6.out (by obtain⟨A_,n_,c_,hh_,_⟩:=HNV.out;exact Ne.symm (OwR.apart (show OwR scC17 2 66 wa.heap.size _ B i d acc from⟨hO.out,HO5.out.2⟩) (hh_.beside _) (by decide))));clear ho6 hg6 hO hSL h1 hBD HO5 HB5 HNU HNV hw1 hw2 z1 hib hnb;go_wp2;go_roundg (k1-1)
   case measure=>have:=HIN.out;omega
   case rel=>exact⟨i+1,B6,d6,acc++[⟨Z,s2⟩],Z,U,by have:=HIN.out;omega,by have:=HIN.out;omega,by first|go_num|(rw[IntWalk.wrap64_in _ (by have h1_:=HIN.out;omega)];go_num),rfl,rfl,HO6,HZB,HN6,zq (by rw[HIN.out.2.2.1];exact HUR.out),zq (by rw[HIN.out.2.2.1];exact HRJ.out),HB6⟩
end
section
open Go.RowKit
open Go.Great
def lkA17 (k:Lk17):Array Value:=#[.bool k.told,.int .i64 k.group,.bool k.rev]
def lkC17 (k:Lk17):List Value:=[.bool k.told,.int .i64 k.group,.bool k.rev]
theorem one_lk17 (k:Lk17): ∀u∈lkC17 k,u.oneCell'=true:=by
 intro u hu;simp only[lkC17,List.mem_cons,List.not_mem_nil,or_false]at hu
 rcases hu with rfl|rfl|rfl<;>rfl
theorem info_lk17:(Tryz.prog.info? 180).map (fun i=>(i.zero,i.size,i.bytes))=some (some (.agg #[.bool false,.int .i64 0,.bool false]),3,24):=by kernel_rfl
theorem NumR.draw17 {wb W:World}{g:Nat}{V:List Int}(h:NumR wb W g V):NumR wb W.drew g V:=by
 obtain⟨A,n,c,h1,h2⟩:=h;exact⟨A,n,c,h1.draw,h2⟩
theorem qby {a b:World}{row:Option Nat}{g:Nat}(h:a.grownBy b row)(hg:a.heap.size<=g)(cs:Array Value):a.grownBy (b.setRow g cs) row:=
 ⟨h.os,h.tape,h.output,by simpa using h.size,fun k hk hne=>by rw[setRow_other b g k cs (by omega)];exact h.block k hk hne⟩
theorem qeN (k:Lk17)(V U:List Int)(hV:LnkSh k V U)(g:Nat)(wb w:World)(h:NumR wb w g V)(hb:Below wb.heap.size wb w)(hg:wb.heap.size<=g):
  Calls Tryz.prog 130 #[.pointer (some ⟨g,0,none⟩)] w fun r W'=>r= .returned (.agg (lkA17 k))/\NumR wb W' g U/\w.grownBy W' (some g):=by
 have hlt:=h.lt;have HG:=zq hg;obtain⟨wa,hwa,hbwa,HWA,HBWA,h0⟩:=bx1Z w 180 #[.bool false,.int .i64 0,.bool false];obtain⟨w0,hw0⟩: ∃u,wa.alloc (.cells #[.bool false,.int .i64 0,.bool false] 180)=u:=⟨_,rfl⟩
 have hb0:Below wa.heap.size wa w0:=by rw[<-hw0];exact bA
 have hM0:Has w0 wa.heap.size 180 #[.bool false,.int .i64 0,.bool false]:=by rw[<-hw0];exact Has.made _ _ _
 obtain⟨g3,hg3⟩: ∃g,wa.heap.size=g:=⟨_,rfl⟩
 rw[hg3]at hM0;have hsz:w.heap.size<g3:=by rw[<-hg3];exact h0.lt
 have hbx:wb.heap.size<=w.heap.size:=hb.size;have hbw:Below w.heap.size w w0:=bu hbwa hb0;have HM0:=zq hM0;have HZ0:=zq (h0.u hb0);have HN0:=zq (h.under hbw);have HB0:=zq (bu hb hbw);have HW0:=zq (qaK hbw (Nat.le_refl _) (some g));have HQ0:=zq hw0;have HG3:=zq hg3;clear hwa hbwa h0 hw0 hb0 hM0 hg3 hbw h hb hg;obtain⟨d,b,oo,ra,aa,hbr,hV⟩:=hV;skip
 rcases hV with⟨c,hcr,rfl,rfl⟩|⟨rfl,rfl⟩
 ·have hD: ∃q,c*16384=q:=⟨_,rfl⟩
  obtain⟨C,hC⟩:=hD;have hwc:IntKind.i64.wrap (c*16384)=C:=by rw[IntKind.wrap_i64];omega
  have hcb:0<=C/\C<=16777216:=by omega
  have HC:=zq hC;clear hC;go_enter Tryz.func130,Tryz.ntmps130;go_upto_region 1 with fail;rw[HWA.out];clear HWA;go_upto_region 2 with fail;rw[HQ0.out];simp only[HG3.out];clear HQ0 HG3;go_wp2_with fail;refine(qbX (d::1::c::b::oo::ra::aa::U) 1 (by simp) g wb w0 HN0.out HB0.out HG.out).mono ?_;rintro e_ w1 ⟨rfl,hn_,hg_⟩;have hn_:NumR wb w1 g (1::c::b::oo::ra::aa::U):=hn_;have HN1:=zq hn_;have HB1:=zq (qaj HB0.out hg_ HB0.out.size HG.out);have HW1:=zq (qam HW0.out hg_);have HM1:=zq (HM0.out.grow hg_ (by intro e_;injection e_ with e_;omega));have HZ1:=zq (HZ0.out.grow hg_ (by intro e_;injection e_ with e_;omega));clear hn_ hg_ HN0 HB0 HW0 HM0 HZ0;go_wp2_with fail;refine(qay 1 (c::b::oo::ra::aa::U) g wb w1 HN1.out HB1.out HG.out).mono ?_;rintro e_ w2 ⟨rfl,hn_,hg_⟩;have HN2:=zq hn_;have HB2:=zq (qaj HB1.out hg_ HB1.out.size HG.out);have HW2:=zq (qam HW1.out hg_);have HM2:=zq (HM1.out.grow hg_ (by intro e_;injection e_ with e_;omega));have HZ2:=zq (HZ1.out.grow hg_ (by intro e_;injection e_ with e_;omega));clear hn_ hg_ HN1 HB1 HW1 HM1 HZ1;have HN3:=zq (HN2.out.grow (qal w2 g3 #[.bool true,.int .i64 0,.bool false]) (by intro e_;injection e_ with e_;omega));have HB3:=zq (qab (g:=g3) HB2.out (by omega) #[.bool true,.int .i64 0,.bool false]);have HW3:=zq (qby (g:=g3) HW2.out (by omega) #[.bool true,.int .i64 0,.bool false]);have HM3:=zq (qaa HM2.out #[.bool true,.int .i64 0,.bool false]);have HZ3:=zq (qad (g:=g3) HZ2.out (by omega) #[.bool true,.int .i64 0,.bool false]);obtain⟨w3,hw3⟩: ∃u,w2.setRow g3 #[.bool true,.int .i64 0,.bool false]=u:=⟨_,rfl⟩
  rw[hw3]at HN3 HB3 HW3 HM3 HZ3;have HQ3:=zq hw3;clear hw3;go_upto_region 4 with(with_reducible refine qap (o:=⟨none,_,_,_,_,_⟩) rfl 4 _ _ rfl (g3) 0 (.bool true) rfl rfl 180 #[.bool false,.int .i64 0,.bool false] HM2.out (Nat.le_of_ble_eq_true rfl) (by kernel_rfl) rfl #[.bool true,.int .i64 0,.bool false] rfl ?_)
  rw[HQ3.out];clear HQ3 HN2 HB2 HW2 HM2 HZ2;have m0:w3.cell? ⟨g3,0,none⟩=some (.bool true):=HM3.out.cell 0;go_upto_region 5 with fail;clear m0;go_wp2_with fail;refine(qay c (b::oo::ra::aa::U) g wb w3 HN3.out HB3.out HG.out).mono ?_;rintro e_ w4 ⟨rfl,hn_,hg_⟩;have HN4:=zq hn_;have HB4:=zq (qaj HB3.out hg_ HB3.out.size HG.out);have HW4:=zq (qam HW3.out hg_);have HM4:=zq (HM3.out.grow hg_ (by intro e_;injection e_ with e_;omega));have HZ4:=zq (HZ3.out.grow hg_ (by intro e_;injection e_ with e_;omega));clear hn_ hg_ HN3 HB3 HW3 HM3 HZ3;have HN5:=zq (HN4.out.grow (qal w4 g3 #[.bool true,.int .i64 C,.bool false]) (by intro e_;injection e_ with e_;omega));have HB5:=zq (qab (g:=g3) HB4.out (by omega) #[.bool true,.int .i64 C,.bool false]);have HW5:=zq (qby (g:=g3) HW4.out (by omega) #[.bool true,.int .i64 C,.bool false]);have HM5:=zq (qaa HM4.out #[.bool true,.int .i64 C,.bool false]);have HZ5:=zq (qad (g:=g3) HZ4.out (by omega) #[.bool true,.int .i64 C,.bool false]);obtain⟨w5,hw5⟩: ∃u,w4.setRow g3 #[.bool true,.int .i64 C,.bool false]=u:=⟨_,rfl⟩
  rw[hw5]at HN5 HB5 HW5 HM5 HZ5;have HQ5:=zq hw5;clear hw5;go_upto_region 6 with(with_reducible refine qap (o:=⟨none,_,_,_,_,_⟩) rfl 3 _ _ rfl (g3) 1 (.int .i64 C) rfl rfl 180 #[.bool true,.int .i64 0,.bool false] HM4.out (Nat.le_of_ble_eq_true rfl) (by kernel_rfl) rfl #[.bool true,.int .i64 C,.bool false] rfl ?_)
  rw[HQ5.out];clear HQ5 HN4 HB4 HW4 HM4 HZ4;skip;obtain⟨S,hS⟩: ∃s,C+b=s:=⟨_,rfl⟩
  have hws:IntKind.i64.wrap (C+b)=S:=by rw[IntKind.wrap_i64];omega
  have HS:=zq hS;have HWS:=zq hws;clear hS hws
  try simp only[Act.put]
  go_cut [] (fun wx=>NumR wb wx g (oo::ra::aa::U)/\Below wb.heap.size wb wx/\w.grownBy wx (some g)/\Has wx g3 180 #[.bool true,.int .i64 S,.bool false]/\Has wx (w.heap.size) 180 #[.bool false,.int .i64 0,.bool false])
  case first=>
   have HND:=zq (HN5.out.draw17);refine wp_region_held_drew (S:=(fun W_=>(w.grownBy W_ (some g))/\(Below wb.heap.size wb W_)/\(Has W_ (w.heap.size) 180 #[.bool false,.int .i64 0,.bool false]))) (by kernel_rfl) ?_ (fun hHeld=>?_)
   ·exact⟨qfv HW5.out,qaf HB5.out,HZ5.out.draw⟩
   have HM5:=zq HM5.out.draw;refine tkZ 0 16 (h:=?_);simp only[lyZ];refine tkZ 2 18 (h:=?_);simp only[lyZ];refine rdZ [1,3] (acZ (some 17) (fun K hK=>?za6) (acZ (some 19) (fun K hK=>?zb6) AllReadyH.nil))
   case' za6=>
    skip;obtain⟨s0,s1,s2⟩:=hHeld;have q_:=HM5.out.cell 1;go_simp;clear q_;refine hK.out _ _ ?_ (fun hHeld=>?_)
    ·exact⟨s0,s1,s2⟩
    clear hK K s0 s1 s2
    try simp only[lyZ]
    refine aoZ 3 (some 19) (fun K hK=>?_);go_simp;obtain⟨s0,s1,s2⟩:=hHeld;refine(qay b (oo::ra::aa::U) g wb _ HND.out s1 HG.out).mono ?_;rintro e_ q1 ⟨rfl,hn_,hg_⟩;have HM5:=zq (HM5.out.grow hg_ (by intro e_;injection e_ with e_;omega));have HNX:=zq (hn_);go_wp2_with fail;refine hK.out _ _ ?_ (fun hHeld=>?_)
    ·exact⟨qam s0 hg_,qaj s1 hg_ s1.size HG.out,s2.grow hg_ (by intro e_;injection e_ with e_;omega)⟩
   case' zb6=>
    go_simp;obtain⟨s0,s1,s2⟩:=hHeld;refine(qay b (oo::ra::aa::U) g wb _ HND.out s1 HG.out).mono ?_;rintro e_ q1 ⟨rfl,hn_,hg_⟩;have HM5:=zq (HM5.out.grow hg_ (by intro e_;injection e_ with e_;omega));have HNX:=zq (hn_);go_wp2_with fail;refine hK.out _ _ ?_ (fun hHeld=>?_)
    ·exact⟨qam s0 hg_,qaj s1 hg_ s1.size HG.out,s2.grow hg_ (by intro e_;injection e_ with e_;omega)⟩
    clear hK K s0 s1 s2
    try simp only[lyZ]
    refine aoZ 1 (some 17) (fun K hK=>?_);skip;obtain⟨s0,s1,s2⟩:=hHeld;have q_:=HM5.out.cell 1;go_simp;clear q_;refine hK.out _ _ ?_ (fun hHeld=>?_)
    ·exact⟨s0,s1,s2⟩
   all_goals
    clear hK K s0 s1 s2
    try simp only[lyZ]
    refine tqZ 4 20 (fun w_ ⟨s0,s1,s2⟩=>HWS.out) (h:=?_);simp only[lyZ];refine tkZ 5 21 (h:=?_);simp only[lyZ];refine aoZ 6 none (fun K hK=>?_);rw[if_pos (by rfl)];obtain⟨s0,s1,s2⟩:=hHeld;refine qaP 3 _ _ rfl (g3) 1 (.int .i64 S) (by rfl) (by rfl) 180 #[.bool true,.int .i64 C,.bool false] HM5.out (Nat.le_of_ble_eq_true rfl) (by kernel_rfl) rfl #[.bool true,.int .i64 S,.bool false] rfl ?_;have HNX:=zq (HNX.out.grow (qal _ (g3) #[.bool true,.int .i64 S,.bool false]) (by intro e_;injection e_ with e_;omega));refine hK.out _ _ ?_ (fun hHeld=>?_)
    ·exact⟨qby (g:=g3) s0 (by omega) _,qab (g:=g3) s1 (by omega) _,qad (g:=g3) s2 (by omega) _⟩
    have HM5:=zq (qaa HM5.out #[.bool true,.int .i64 S,.bool false]);clear hK K s0 s1 s2
    try simp only[Act.put]
    refine dnZ ?_;go_wp2_with fail;go_meet
    exact⟨HNX.out,hHeld.2.1,hHeld.1,HM5.out,hHeld.2.2⟩
  obtain⟨hn_,hb_,hw_,hm_,hz_⟩:=hcut;obtain⟨w6,hw6⟩: ∃u,u=wc:=⟨_,rfl⟩
  subst hw6;have HN6:=zq hn_;have HB6:=zq hb_;have HW6:=zq hw_;have HM6:=zq hm_;have HZ6:=zq hz_;clear hn_ hb_ hw_ hm_ hz_ HWS HN5 HB5 HW5 HM5 HZ5;obtain⟨OB,hOB⟩: ∃q,(oo==0)=q:=⟨_,rfl⟩
  have HOB:=zq hOB;go_wp2_with fail;refine(qay oo (ra::aa::U) g wb w6 HN6.out HB6.out HG.out).mono ?_;rintro e_ w7 ⟨rfl,hn_,hg_⟩;have HN7:=zq hn_;have HB7:=zq (qaj HB6.out hg_ HB6.out.size HG.out);have HW7:=zq (qam HW6.out hg_);have HM7:=zq (HM6.out.grow hg_ (by intro e_;injection e_ with e_;omega));have HZ7:=zq (HZ6.out.grow hg_ (by intro e_;injection e_ with e_;omega));clear hn_ hg_ HN6 HB6 HW6 HM6 HZ6;have HN8:=zq (HN7.out.grow (qal w7 g3 #[.bool true,.int .i64 S,.bool OB]) (by intro e_;injection e_ with e_;omega));have HB8:=zq (qab (g:=g3) HB7.out (by omega) #[.bool true,.int .i64 S,.bool OB]);have HW8:=zq (qby (g:=g3) HW7.out (by omega) #[.bool true,.int .i64 S,.bool OB]);have HM8:=zq (qaa HM7.out #[.bool true,.int .i64 S,.bool OB]);have HZ8:=zq (qad (g:=g3) HZ7.out (by omega) #[.bool true,.int .i64 S,.bool OB]);obtain⟨w8,hw8⟩: ∃u,w7.setRow g3 #[.bool true,.int .i64 S,.bool OB]=u:=⟨_,rfl⟩
  rw[hw8]at HN8 HB8 HW8 HM8 HZ8;have HQ8:=zq hw8;clear hw8;go_upto_region 8 with(with_reducible refine qap (o:=⟨none,_,_,_,_,_⟩) rfl 4 _ _ rfl (g3) 2 (.bool OB) rfl rfl 180 #[.bool true,.int .i64 S,.bool false] HM7.out (Nat.le_of_ble_eq_true rfl) (by kernel_rfl) rfl #[.bool true,.int .i64 S,.bool OB] rfl ?_)
  rw[HQ8.out];clear hOB HQ8 HN7 HB7 HW7 HM7 HZ7;go_wp2_with fail;refine(qbX (ra::aa::U) 2 (by simp) g wb w8 HN8.out HB8.out HG.out).mono ?_;rintro e_ w9 ⟨rfl,hn_,hg_⟩;have hn_:NumR wb w9 g (U):=hn_;have HN9:=zq hn_;have HB9:=zq (qaj HB8.out hg_ HB8.out.size HG.out);have HW9:=zq (qam HW8.out hg_);have HM9:=zq (HM8.out.grow hg_ (by intro e_;injection e_ with e_;omega));have HZ9:=zq (HZ8.out.grow hg_ (by intro e_;injection e_ with e_;omega));clear hn_ hg_ HN8 HB8 HW8 HM8 HZ8;have HR:=zq (qaa HZ9.out #[.bool true,.int .i64 S,.bool OB]);have HWF:=zq (qby (g:=w.heap.size) HW9.out (Nat.le_refl _) #[.bool true,.int .i64 S,.bool OB]);have HNF:=zq (HN9.out.grow (qal w9 (w.heap.size) #[.bool true,.int .i64 S,.bool OB]) (by intro e_;injection e_ with e_;omega));go_wp2_with (first|(with_reducible refine ldZ 28 HM9.out ?_)|(with_reducible refine stZ #[.bool true,.int .i64 S,.bool OB] HZ9.out ?_));refine roZ HR.out ?_;exact⟨by rw[show lkA17 (⟨true,c*16384+b,oo==0⟩:Lk17)=lkA17 ⟨true,C+b,oo==0⟩from by rw[HC.out]];unfold lkA17;dsimp only;rw[HOB.out,HS.out],HNF.out,HWF.out⟩
 ·
  go_enter Tryz.func130,Tryz.ntmps130;go_upto_region 1 with fail;rw[HWA.out];clear HWA;go_upto_region 2 with fail;rw[HQ0.out];simp only[HG3.out];clear HQ0 HG3;go_wp2_with fail;refine(qbX (d::0::b::oo::ra::aa::U) 1 (by simp) g wb w0 HN0.out HB0.out HG.out).mono ?_;rintro e_ w1 ⟨rfl,hn_,hg_⟩;have hn_:NumR wb w1 g (0::b::oo::ra::aa::U):=hn_;have HN1:=zq hn_;have HB1:=zq (qaj HB0.out hg_ HB0.out.size HG.out);have HW1:=zq (qam HW0.out hg_);have HM1:=zq (HM0.out.grow hg_ (by intro e_;injection e_ with e_;omega));have HZ1:=zq (HZ0.out.grow hg_ (by intro e_;injection e_ with e_;omega));clear hn_ hg_ HN0 HB0 HW0 HM0 HZ0;go_wp2_with fail;refine(qay 0 (b::oo::ra::aa::U) g wb w1 HN1.out HB1.out HG.out).mono ?_;rintro e_ w2 ⟨rfl,hn_,hg_⟩;have HN2:=zq hn_;have HB2:=zq (qaj HB1.out hg_ HB1.out.size HG.out);have HW2:=zq (qam HW1.out hg_);have HM2:=zq (HM1.out.grow hg_ (by intro e_;injection e_ with e_;omega));have HZ2:=zq (HZ1.out.grow hg_ (by intro e_;injection e_ with e_;omega));clear hn_ hg_ HN1 HB1 HW1 HM1 HZ1;have HN3:=zq (HN2.out.grow (qal w2 g3 #[.bool false,.int .i64 0,.bool false]) (by intro e_;injection e_ with e_;omega));have HB3:=zq (qab (g:=g3) HB2.out (by omega) #[.bool false,.int .i64 0,.bool false]);have HW3:=zq (qby (g:=g3) HW2.out (by omega) #[.bool false,.int .i64 0,.bool false]);have HM3:=zq (qaa HM2.out #[.bool false,.int .i64 0,.bool false]);have HZ3:=zq (qad (g:=g3) HZ2.out (by omega) #[.bool false,.int .i64 0,.bool false]);obtain⟨w3,hw3⟩: ∃u,w2.setRow g3 #[.bool false,.int .i64 0,.bool false]=u:=⟨_,rfl⟩
  rw[hw3]at HN3 HB3 HW3 HM3 HZ3;have HQ3:=zq hw3;clear hw3;go_upto_region 4 with(with_reducible refine qap (o:=⟨none,_,_,_,_,_⟩) rfl 4 _ _ rfl (g3) 0 (.bool false) rfl rfl 180 #[.bool false,.int .i64 0,.bool false] HM2.out (Nat.le_of_ble_eq_true rfl) (by kernel_rfl) rfl #[.bool false,.int .i64 0,.bool false] rfl ?_)
  rw[HQ3.out];clear HQ3 HN2 HB2 HW2 HM2 HZ2;have m0:w3.cell? ⟨g3,0,none⟩=some (.bool false):=HM3.out.cell 0;go_upto_region 6 with fail;obtain⟨S,hS⟩: ∃s,b=s:=⟨_,rfl⟩
  have hws:IntKind.i64.wrap (b)=S:=by rw[IntKind.wrap_i64];omega
  have HS:=zq hS;have HWS:=zq hws;clear hS hws;go_cut [] (fun wx=>NumR wb wx g (oo::ra::aa::U)/\Below wb.heap.size wb wx/\w.grownBy wx (some g)/\Has wx g3 180 #[.bool false,.int .i64 S,.bool false]/\Has wx (w.heap.size) 180 #[.bool false,.int .i64 0,.bool false])
  case first=>
   have HND:=zq (HN3.out.draw17);refine wp_region_held_drew (S:=(fun W_=>(w.grownBy W_ (some g))/\(Below wb.heap.size wb W_)/\(Has W_ (w.heap.size) 180 #[.bool false,.int .i64 0,.bool false]))) (by kernel_rfl) ?_ (fun hHeld=>?_)
   ·exact⟨qfv HW3.out,qaf HB3.out,HZ3.out.draw⟩
   have HM3:=zq HM3.out.draw;refine tkZ 0 16 (h:=?_);simp only[lyZ];refine tkZ 2 18 (h:=?_);simp only[lyZ];refine rdZ [1,3] (acZ (some 17) (fun K hK=>?za7) (acZ (some 19) (fun K hK=>?zb7) AllReadyH.nil))
   case' za7=>
    skip;obtain⟨s0,s1,s2⟩:=hHeld;have q_:=HM3.out.cell 1;go_simp;clear q_;refine hK.out _ _ ?_ (fun hHeld=>?_)
    ·exact⟨s0,s1,s2⟩
    clear hK K s0 s1 s2
    try simp only[lyZ]
    refine aoZ 3 (some 19) (fun K hK=>?_);go_simp;obtain⟨s0,s1,s2⟩:=hHeld;refine(qay b (oo::ra::aa::U) g wb _ HND.out s1 HG.out).mono ?_;rintro e_ q1 ⟨rfl,hn_,hg_⟩;have HM3:=zq (HM3.out.grow hg_ (by intro e_;injection e_ with e_;omega));have HNX:=zq (hn_);go_wp2_with fail;refine hK.out _ _ ?_ (fun hHeld=>?_)
    ·exact⟨qam s0 hg_,qaj s1 hg_ s1.size HG.out,s2.grow hg_ (by intro e_;injection e_ with e_;omega)⟩
   case' zb7=>
    go_simp;obtain⟨s0,s1,s2⟩:=hHeld;refine(qay b (oo::ra::aa::U) g wb _ HND.out s1 HG.out).mono ?_;rintro e_ q1 ⟨rfl,hn_,hg_⟩;have HM3:=zq (HM3.out.grow hg_ (by intro e_;injection e_ with e_;omega));have HNX:=zq (hn_);go_wp2_with fail;refine hK.out _ _ ?_ (fun hHeld=>?_)
    ·exact⟨qam s0 hg_,qaj s1 hg_ s1.size HG.out,s2.grow hg_ (by intro e_;injection e_ with e_;omega)⟩
    clear hK K s0 s1 s2
    try simp only[lyZ]
    refine aoZ 1 (some 17) (fun K hK=>?_);skip;obtain⟨s0,s1,s2⟩:=hHeld;have q_:=HM3.out.cell 1;go_simp;clear q_;refine hK.out _ _ ?_ (fun hHeld=>?_)
    ·exact⟨s0,s1,s2⟩
   all_goals
    clear hK K s0 s1 s2
    try simp only[lyZ]
    refine tqZ 4 20 (fun w_ ⟨s0,s1,s2⟩=>HWS.out) (h:=?_);simp only[lyZ];refine tkZ 5 21 (h:=?_);simp only[lyZ];refine aoZ 6 none (fun K hK=>?_);rw[if_pos (by rfl)];obtain⟨s0,s1,s2⟩:=hHeld;refine qaP 3 _ _ rfl (g3) 1 (.int .i64 S) (by rfl) (by rfl) 180 #[.bool false,.int .i64 0,.bool false] HM3.out (Nat.le_of_ble_eq_true rfl) (by kernel_rfl) rfl #[.bool false,.int .i64 S,.bool false] rfl ?_;have HNX:=zq (HNX.out.grow (qal _ (g3) #[.bool false,.int .i64 S,.bool false]) (by intro e_;injection e_ with e_;omega));refine hK.out _ _ ?_ (fun hHeld=>?_)
    ·exact⟨qby (g:=g3) s0 (by omega) _,qab (g:=g3) s1 (by omega) _,qad (g:=g3) s2 (by omega) _⟩
    have HM3:=zq (qaa HM3.out #[.bool false,.int .i64 S,.bool false]);clear hK K s0 s1 s2
    try simp only[Act.put]
    refine dnZ ?_;go_wp2_with fail;go_meet
    exact⟨HNX.out,hHeld.2.1,hHeld.1,HM3.out,hHeld.2.2⟩
  obtain⟨hn_,hb_,hw_,hm_,hz_⟩:=hcut;obtain⟨w4,hw4⟩: ∃u,u=wc:=⟨_,rfl⟩
  subst hw4;have HN4:=zq hn_;have HB4:=zq hb_;have HW4:=zq hw_;have HM4:=zq hm_;have HZ4:=zq hz_;clear hn_ hb_ hw_ hm_ hz_ HWS HN3 HB3 HW3 HM3 HZ3;obtain⟨OB,hOB⟩: ∃q,(oo==0)=q:=⟨_,rfl⟩
  have HOB:=zq hOB;go_wp2_with fail;refine(qay oo (ra::aa::U) g wb w4 HN4.out HB4.out HG.out).mono ?_;rintro e_ w5 ⟨rfl,hn_,hg_⟩;have HN5:=zq hn_;have HB5:=zq (qaj HB4.out hg_ HB4.out.size HG.out);have HW5:=zq (qam HW4.out hg_);have HM5:=zq (HM4.out.grow hg_ (by intro e_;injection e_ with e_;omega));have HZ5:=zq (HZ4.out.grow hg_ (by intro e_;injection e_ with e_;omega));clear hn_ hg_ HN4 HB4 HW4 HM4 HZ4;have HN6:=zq (HN5.out.grow (qal w5 g3 #[.bool false,.int .i64 S,.bool OB]) (by intro e_;injection e_ with e_;omega));have HB6:=zq (qab (g:=g3) HB5.out (by omega) #[.bool false,.int .i64 S,.bool OB]);have HW6:=zq (qby (g:=g3) HW5.out (by omega) #[.bool false,.int .i64 S,.bool OB]);have HM6:=zq (qaa HM5.out #[.bool false,.int .i64 S,.bool OB]);have HZ6:=zq (qad (g:=g3) HZ5.out (by omega) #[.bool false,.int .i64 S,.bool OB]);obtain⟨w6,hw6⟩: ∃u,w5.setRow g3 #[.bool false,.int .i64 S,.bool OB]=u:=⟨_,rfl⟩
  rw[hw6]at HN6 HB6 HW6 HM6 HZ6;have HQ6:=zq hw6;clear hw6;go_upto_region 8 with(with_reducible refine qap (o:=⟨none,_,_,_,_,_⟩) rfl 4 _ _ rfl (g3) 2 (.bool OB) rfl rfl 180 #[.bool false,.int .i64 S,.bool false] HM5.out (Nat.le_of_ble_eq_true rfl) (by kernel_rfl) rfl #[.bool false,.int .i64 S,.bool OB] rfl ?_)
  rw[HQ6.out];clear hOB HQ6 HN5 HB5 HW5 HM5 HZ5;go_wp2_with fail;refine(qbX (ra::aa::U) 2 (by simp) g wb w6 HN6.out HB6.out HG.out).mono ?_;rintro e_ w7 ⟨rfl,hn_,hg_⟩;have hn_:NumR wb w7 g (U):=hn_;have HN7:=zq hn_;have HB7:=zq (qaj HB6.out hg_ HB6.out.size HG.out);have HW7:=zq (qam HW6.out hg_);have HM7:=zq (HM6.out.grow hg_ (by intro e_;injection e_ with e_;omega));have HZ7:=zq (HZ6.out.grow hg_ (by intro e_;injection e_ with e_;omega));clear hn_ hg_ HN6 HB6 HW6 HM6 HZ6;have HR:=zq (qaa HZ7.out #[.bool false,.int .i64 S,.bool OB]);have HWF:=zq (qby (g:=w.heap.size) HW7.out (Nat.le_refl _) #[.bool false,.int .i64 S,.bool OB]);have HNF:=zq (HN7.out.grow (qal w7 (w.heap.size) #[.bool false,.int .i64 S,.bool OB]) (by intro e_;injection e_ with e_;omega));go_wp2_with (first|(with_reducible refine ldZ 28 HM7.out ?_)|(with_reducible refine stZ #[.bool false,.int .i64 S,.bool OB] HZ7.out ?_));refine roZ HR.out ?_;exact⟨by rw[show lkA17 (⟨false,b,oo==0⟩:Lk17)=lkA17 ⟨false,b,oo==0⟩from rfl];unfold lkA17;dsimp only;rw[HOB.out,HS.out],HNF.out,HWF.out⟩
theorem SlK.pk17 {w:World}{A:Option Addr}{n c:Nat}{l:List PkE}(h:SlK w A n c l){j:Nat}{x:PkE}(hx:l[j]?=some x):
  ∃b off,A=some ⟨b,off,none⟩/\w.cell? ⟨b,off+j*2,none⟩=some (.int .i64 x.id)/\w.cell? ⟨b,off+j*2+1,none⟩=some (.slice x.A x.n x.c):=by
 obtain⟨hj,rfl⟩:=List.getElem?_eq_some_iff.1 hx;exact h.at_ hj
theorem oix_pk17 (p:PkE->Bool)(l:List PkE)(A:Option Addr)(n c:Nat)(w:World)(hs:SlK w A n c l)(hbig:n<=1048576)
  (HE:Hid (∀(x:PkE) W,Below w.heap.size w W->Calls Tryz.prog 129 #[.agg #[.int .i64 x.id,.slice x.A x.n x.c]] W fun e w'=>e= .returned (.bool (p x))/\Below W.heap.size W w')):
  Calls Tryz.prog 128 #[.slice A n c,.func (.func 129) #[] #[]] w fun e w'=>e= .returned (.int .i64 (idxL p l))/\Below w.heap.size w w':=by
 have HN:Hid (l.length=n):=zq hs.len;have HW:=zq hs;clear hs;have x0:(0:Int)<=n:=by omega
 obtain⟨R,hR⟩:=geZ (idxL p l);have HR:=zq hR;rw[hR];clear hR;go_enter Tryz.func128,Tryz.ntmps128;go_wp2;go_loopg [8] n (fun kk v wl=> ∃j:Nat,j<=n/\n-j<=kk/\v= .int .i64 j/\Hid (∀i x,i<j->l[i]?=some x->p x=false)/\Hid (Below w.heap.size w wl))
 case atStart=>exact⟨0,by omega,by omega,rfl,zq fun i x h=>absurd h (by omega),zq (Below.refl _ _)⟩
 obtain⟨j,hj,hjk,rfl,HNO,HBL⟩:=hrel;by_cases hlt:j<n
 ·obtain⟨x,hx⟩:=glZ l (j) (by rw[HN.out];omega)
  obtain⟨bk,off,rfl,d0,d1⟩:=(HW.out.under HBL.out).pk17 hx;have HX:=zq hx;have y0:(0:Int)<=j:=by omega
  have y1:(j:Int)<n:=by omega
  have HC:=zq (HE.out x wr HBL.out);clear hx;generalize hb:p x=b at*;have HBE:=zq hb;clear hb
  cases b with
  |true=>
   have HF:Hid (R=j):=zq (by rw[<-HR.out];exact qbE HX.out HBE.out HNO.out);go_upto_region 4 with fail;go_wp2_with fail;refine HC.out.mono ?_;rintro e w1 ⟨rfl,hb1⟩;have HB1:=tB HBL hb1;clear hb1 d0 d1 HBE HNO;go_wp2;go_ret
   exact⟨by rw[HF.out];rfl,HB1.out⟩
  |false=>
   go_upto_region 4 with fail;go_wp2_with fail;refine HC.out.mono ?_;rintro e w1 ⟨rfl,hb1⟩;have HB1:=tB HBL hb1;have HN2:Hid (∀i y,i<j+1->l[i]?=some y->p y=false):=zq fun i y hi hy=>by
    by_cases h:i=j
    ·subst h;rw[HX.out]at hy;cases hy;exact HBE.out
    ·exact HNO.out i y (by omega) hy
   clear hb1 d0 d1 HBE HNO;go_wp2;go_roundg (gk-1)
   case measure=>omega
   case rel=>exact⟨j+1,by omega,by omega,by go_num,HN2,HB1⟩
 ·have y1: ¬(j:Int)<n:=by omega
  have HF:Hid (R= -1):=zq (by rw[<-HR.out];exact qbc fun i y hi hy=>HNO.out i y (by have:=HN.out;omega) hy);go_wp2;go_ret
  exact⟨by rw[HF.out];rfl,HBL.out⟩
theorem oprl1_any (id:Int)(A:Option Addr)(n c:Nat)(w:World):Calls Tryz.prog 129 #[.agg #[.int .i64 id,.slice A n c]] w fun e w'=>e= .returned (.bool (id==5))/\Below w.heap.size w w':=by
 obtain⟨wa,hwa,hbwa,HWA,HBWA,h0⟩:=bx1Z w 98 #[.int .i64 id,.slice A n c];have c0:wa.cell? ⟨w.heap.size,0,none⟩=some (.int .i64 id):=h0.cell 0;clear hwa hbwa h0;obtain⟨q,hq⟩:=geZ ((id==5));rw[hq];go_enter Tryz.func129,Tryz.ntmps129;go_upto_region 1 with fail;rw[HWA.out];clear HWA;go_wp2;go_ret
 exact⟨by first|rfl|(rw[hq];done)|simp_all,HBWA.out⟩
def qf4 (l:List PkE)(ks:List Lk17):Prop:=match (qba l).find? fun q=>q.1==5 with
 |none=>ks=[]
 |some q=> ∀(t:Tp3) (path:List St3),qej t path q.2=qa9 t path ks
theorem plain_find17 (l:List PkE):(qba l).find? (fun q=>q.1==5)=(l.find? fun p=>p.id==5).map fun p=>(p.id,p.V):=by
 unfold qba;rw[List.find?_map]
 rfl
theorem oprdlinks_any (l:List PkE)(A:Option Addr)(n c:Nat)(w:World)(hs:SlK w A n c l)(hn:n<=30)(hv: ∀p∈l,p.n<=3000)(hok: ∀p∈l,qaV (p.id,p.V)=true):
  Calls Tryz.prog 66 #[.slice A n c] w fun r w'=> ∃(ks:List Lk17) (B:Option Addr) (m d:Nat),r= .returned (.slice B m d)/\SlO lkC17 3 w' B m d ks/\m<=32/\qf4 l ks/\Below w.heap.size w w':=by
 have HE:Hid (∀(x:PkE) W,Below w.heap.size w W->Calls Tryz.prog 129 #[.agg #[.int .i64 x.id,.slice x.A x.n x.c]] W fun e w'=>e= .returned (.bool (x.id==5))/\Below W.heap.size W w'):=zq fun x W _=>oprl1_any x.id x.A x.n x.c W;have HIX:=zq (oix_pk17 (fun x=>x.id==5) l A n c w hs (by omega) HE);have hfi:=qeX (fun x:PkE=>x.id==5) l;have HPF:=zq (plain_find17 l);have HLN:=zq hs.len
 rcases hfi with⟨h1,h2⟩|⟨j,y,h1,h2,h3⟩
 ·rw[h1]at HIX
  have HLP:=zq (show qf4 l []from by unfold qf4;rw[HPF.out,h2];rfl);clear h1 h2 hs hn hv hok HE HPF;go_enter Tryz.func66,Tryz.ntmps66;go_wp2_with fail;refine HIX.out.mono ?_;rintro e_ w1 ⟨rfl,hb1⟩;have HB1:=zq hb1;clear hb1 HIX;go_wp2;go_ret
  exact⟨[],none,0,0,rfl,SlO.nil _ _ _,by omega,HLP.out,HB1.out⟩
 ·rw[h2]at HIX
  have hy:=List.mem_of_getElem? h1;have hid5:y.id=5:=by have h4:=List.find?_some h3;simpa using h4
  have hyk:=hok y hy;rw[hid5]at hyk;obtain⟨dd,uu,R0,R1,nn,k0,ks,hyV,hk0,hnr,hks,hkr⟩:=five_shape17 hyk;have HLP:=zq (show qf4 l (k0::ks)from by unfold qf4;rw[HPF.out,h3];show∀(t:Tp3) (path:List St3),qej t path y.V=qa9 t path (k0::ks);intro t path;rw[hyV];exact(qfi hk0 hks hkr).symm);obtain⟨N,hN⟩: ∃N:Nat,nn=(N:Int):=⟨nn.toNat,by omega⟩
  subst hN;have hyS:=hs.each y hy;have HYS:=zq (fun W (hW:Below w.heap.size w W)=>(⟨hyS.len,by rw[qdE];exact hyS.sl.under hW⟩:SlO inC 1 W y.A y.n y.c y.V));have HYC:=zq (show y.n<=y.c/\y.n<=10000 from⟨hyS.cap,by have:=hv y hy;omega⟩);have HSK:=zq (fun W (hW:Below w.heap.size w W)=>(hs.under hW).pk17 h1);have hjn:j<n:=by rw[<-hs.len];exact(List.getElem?_eq_some_iff.1 h1).1
  have HK0:=zq hk0;have HKR:=zq hkr;have HNB:=zq (show N<=31/\ks.length=N from by omega);have hj30:j<30:=by omega
  rw[hyV]at HYS;clear h1 h2 h3 hy hid5 hyk hyV hk0 hnr hks hkr hyS hs hn hv hok HE HPF HLN;go_enter Tryz.func66,Tryz.ntmps66;go_wp2_with fail;refine HIX.out.mono ?_;rintro e_ w1 ⟨rfl,hb1⟩;have HB1:=zq hb1;obtain⟨bk,off,rfl,e0,e1⟩:=HSK.out w1 hb1;clear hb1 HIX HSK;have x1:(0:Int)<=j:=by omega
  have x2:(j:Int)<n:=by omega
  have q1:decide ((j:Int)<0)=false:=decide_eq_false (by omega);obtain⟨w2,hw2⟩: ∃u,w1.alloc (.cells #[.slice y.A y.n y.c] 172)=u:=⟨_,rfl⟩
  have hb2:Below w1.heap.size w1 w2:=by rw[<-hw2];exact bA
  have hH2:Has w2 w1.heap.size 172 #[.slice y.A y.n y.c]:=by rw[<-hw2];exact Has.made _ _ _
  obtain⟨g,hg⟩:=geZ (w1.heap.size);rw[hg]at hH2;have HN2:=zq (show NumR w w2 g (dd::uu::R0)from⟨y.A,y.n,y.c,hH2,HYS.out,HYC.out.1,HYC.out.2⟩);have HG:=zq (show w.heap.size<=g from by rw[<-hg];exact HB1.out.size);have HB2:=tB HB1 hb2;have HW2:=zq hw2;have HGQ:=zq hg;clear hw2 hb2 hH2 hg HYS HYC;go_upto_region 5 with fail;rw[HW2.out];simp only[HGQ.out];clear HW2 HGQ e0 e1 x1 x2 q1 hjn hj30 HB1;go_wp2_with fail;refine(qbX (dd::uu::R0) 2 (by simp) g w w2 HN2.out HB2.out HG.out).mono ?_;rintro e_ w3 ⟨rfl,hn_,hg_⟩;have HN3:=zq (show NumR w w3 g R0 from hn_);have HB3:=zq (qaj HB2.out hg_ HB2.out.size HG.out);clear hn_ hg_ HN2 HB2;go_wp2_with fail;refine(qeN k0 R0 _ HK0.out g w w3 HN3.out HB3.out HG.out).mono ?_;unfold lkA17;rintro e_ w4 ⟨rfl,hn_,hg_⟩;have HN4:=zq hn_;have HB4:=zq (qaj HB3.out hg_ HB3.out.size HG.out);clear hn_ hg_ HN3 HB3;obtain⟨w5,hw5⟩: ∃u,w4.alloc (.cells #[.bool k0.told,.int .i64 k0.group,.bool k0.rev] 180)=u:=⟨_,rfl⟩
  have hb5:Below w4.heap.size w4 w5:=by rw[<-hw5];exact bA
  have HO5:=zq (show OwR lkC17 3 180 w.heap.size w5 (some ⟨w4.heap.size,0,none⟩) 1 1 [k0]from by rw[<-hw5];exact⟨World.ownsRow_lit (base:=w.heap.size) (e:=180) (size:=3) w4 #[.bool k0.told,.int .i64 k0.group,.bool k0.rev] 1 HB4.out.size (by unfold maxLen;omega) rfl,rfl⟩);have HN5:=zq (HN4.out.under hb5);have HB5:=tB HB4 hb5;have HW5:=zq hw5;clear hw5 hb5 HN4 HB4;go_upto_region 7 with fail;rw[HW5.out];clear HW5;go_wp2_with fail;refine(qay (N:Int) R1 g w w5 HN5.out HB5.out HG.out).mono ?_;rintro e_ w6 ⟨rfl,hn_,hg_⟩;have HN6:=zq hn_;have HB6:=zq (qaj HB5.out hg_ HB5.out.size HG.out);have HO6:=zq (HO5.out.kept hg_ (.inr (by obtain⟨A_,n_,c_,hh_,_⟩:=HN5.out;exact HO5.out.apart hh_ (by decide))));clear hn_ hg_ HN5 HB5 HO5;have hnb:N<=31:=HNB.out.1;go_wp2;go_loopg [5,20] N (fun kk v5 v20 wl=> ∃(i:Nat) (B:Option Addr) (d:Nat) (q:List Lk17) (W:List Int),i<=N/\N-i<=kk/\v20= .int .i64 i/\v5= .slice B (i+1) d/\Hid (q=k0::ks.take i)/\Hid (OwR lkC17 3 180 w.heap.size wl B (i+1) d q)/\Hid (NumR w wl g W)/\Hid (qf5 (ks.drop i) W [])/\Hid (Below w.heap.size w wl))
  case atStart=>exact⟨0,_,1,[k0],R1,by omega,by omega,rfl,rfl,zq rfl,HO6,HN6,HKR,HB6⟩
  clear HO6 HN6 HKR HB6;obtain⟨i,B,d,q,W,hi,hik,rfl,rfl,HQI,HO,HNW,HLS,HB⟩:=hrel;obtain⟨k1,hk1⟩: ∃k1,k1=gk:=⟨_,rfl⟩
  subst hk1;obtain⟨wv,hwv⟩: ∃wv,wv=wr:=⟨_,rfl⟩
  subst hwv;by_cases hlt:i<N;rotate_left
  ·obtain rfl:i=N:=by omega
   have y1: ¬(i:Int)<i:=by omega
   have HKS:=zq (show q=k0::ks from by rw[HQI.out,List.take_of_length_le (by rw[HNB.out.2];exact Nat.le_refl _)]);have HMB:=zq (show i+1<=32 from by omega);go_wp2;go_ret
   exact⟨k0::ks,B,i+1,d,rfl,by rw[<-HKS.out];exact HO.out.sl,HMB.out,HLP.out,HB.out⟩
  ·obtain⟨kk_,hkk⟩: ∃q,ks[i]?=some q:=⟨_,List.getElem?_eq_getElem (by rw[HNB.out.2];exact hlt)⟩
   have hls:=HLS.out;rw[qbk hkk]at hls;obtain⟨W2,hkW,hrs⟩:=hls;have HTK:=zq (show q++[kk_]=k0::ks.take (i+1)from by rw[HQI.out,List.take_add_one,hkk];rfl);have HKW:=zq hkW;have HRS:=zq hrs;have x1:(i:Int)<N:=by omega
   have x2:(0:Int)<=i:=by omega
   have HIN:=zq (show i<N/\N-i<=k1 from⟨hlt,hik⟩);clear hkk hkW hrs hi hik hlt HLS;go_wp2_with fail;refine(qeN kk_ W _ HKW.out g w wv HNW.out HB.out HG.out).mono ?_;unfold lkA17;rintro e_ w7 ⟨rfl,hn_,hg_⟩;have HN7:=zq hn_;have HB7:=zq (qaj HB.out hg_ HB.out.size HG.out);have HO7:=zq (HO.out.kept hg_ (.inr (by obtain⟨A_,n_,c_,hh_,_⟩:=HNW.out;exact HO.out.apart hh_ (by decide))));clear hn_ hg_ HNW HB HO HKW;obtain⟨t_,gr_,rv_⟩:=kk_;dsimp only at*;have hib:=HIN.out.1;have hnb:=HNB.out.1;obtain⟨hO,hSL,h1,hBD⟩:=pourR 24 (HO7.out.under ((Below.refl _ _).alloc (Nat.le_refl _) (.cells #[.bool t_,.int .i64 gr_,.bool rv_] 180))) (⟨rfl,qa7 (Has.made _ _ _) rfl⟩:SlO lkC17 3 (w7.alloc (.cells #[.bool t_,.int .i64 gr_,.bool rv_] 180)) (some ⟨w7.heap.size,0,none⟩) 1 1 [⟨t_,gr_,rv_⟩]) one_lk17 (Nat.le_trans HB7.out.size (by simp)) (by omega) (by omega);go_wp2_with (with_reducible refine qaG (o:=⟨some 25,_,_,_,_,_⟩) rfl (.tmp 22) (.tmp 24) 104 rfl w.heap.size 180 (.agg #[.bool false,.int .i64 0,.bool false]) 3 24 Tryz.underlying104 info_lk17 ?hz1 (by decide) B (i+1) d _ ?hs1 hO (some ⟨w7.heap.size,0,none⟩) 1 1 _ ?hx1 hSL h1 hBD ?next1)
   all_goals try rfl
   intro B8 d8 w8 ho8 hg8;have HO8:=zq (show OwR lkC17 3 180 w.heap.size w8 B8 (i+1+1) d8 (q++[⟨t_,gr_,rv_⟩])from OwR.poured (l':=[⟨t_,gr_,rv_⟩]) HO7.out.2 rfl ho8.out);have HB8:=zq (qai (HB7.out.trans ((bA).mono HB7.out.size)) (Nat.le_trans HB7.out.size (by simp)) hO.out (Nat.le_refl _) rfl hg8.out);have HN8:=zq ((HN7.out.under ((Below.refl _ _).alloc (Nat.le_refl _) (.cells #[.bool t_,.int .i64 gr_,.bool rv_] 180))).grow hg8.out (by obtain⟨A_,n_,c_,hh_,_⟩:=HN7.out;exact Ne.symm (OwR.apart (show OwR lkC17 3 180 w.heap.size _ B (i+1) d q from⟨hO.out,HO7.out.2⟩) (hh_.beside _) (by decide))));clear ho8 hg8 hO hSL h1 hBD HO7 HB7 HN7 hib hnb;go_wp2;go_roundg (k1-1)
   case measure=>have:=HIN.out;omega
   case rel=>exact⟨i+1,B8,d8,q++[⟨t_,gr_,rv_⟩],W2,by have:=HIN.out;omega,by have:=HIN.out;omega,by first|go_num|(rw[IntWalk.wrap64_in _ (by have h1_:=HIN.out;have h2_:=HNB.out;omega)];go_num),rfl,HTK,HO8,HN8,HRS,HB8⟩
end
end Go.Proofs.YtahadmeilajdgaaGreatDoor
