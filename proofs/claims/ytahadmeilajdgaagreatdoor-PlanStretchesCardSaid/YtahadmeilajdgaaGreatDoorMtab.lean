/-
  Our own text, joined.
-/
import Derived.Test.YtahadmeilajdgaaGreatDoorMtaa
import Derived.BigQuiet
import Derived.IntWalk
import Derived.ProofKit
import Derived.OpenShut
import Derived.Deep.Slices
import Derived.Lib.SmallJoins
import Derived.ChangeArms
namespace Go.Proofs.YtahadmeilajdgaaGreatDoor
set_option maxRecDepth 100000
set_option maxHeartbeats 8000000
section
def dirB (rev:Bool):Int:=if rev=true then 0 else 1
def scT (n u:Int):Int:=(qaY n u false).1
def secsV (u:Int):Int->List Sc3->Option (List Int)
 |_,[]=>some []
 |b,s::r=>if scT s.to_ u-b<=0 then none else(secsV u (scT s.to_ u) r).map fun w=>(scT s.to_ u-b)::1::s.timer::0::w
def gapV (g:Int):List Int:=if g=0 then[0,0,0]else[0,1,g,0,0]
def qcU (m:Ma3)(u:Int):Option (List Int):=(secsV u 0 m.sects).map fun w=>dirB m.rev::u::0::0::((m.sects.length:Int)-1)::(w++gapV (scT m.gap u))
def qgj (t:Tp3)(e:Int):Option Bl3:=t.bals.find? fun b=>b.edge==e
def qa8 (t:Tp3)(m:Ma3)(u:Int):Int->Bool->List St3->List Int×Int
 |_,_,[]=>([],0)
 |last,fst,s::r=>
  match qgj t s.edge with
  |none=>([],1)
  |some b=>
   if(qaY ((onE t m.path ⟨b.edge,b.at_,s.rev⟩).1-last) u false).2≠0 then([],(qaY ((onE t m.path ⟨b.edge,b.at_,s.rev⟩).1-last) u false).2)
   else if(qa8 t m u (onE t m.path ⟨b.edge,b.at_,s.rev⟩).1 false r).2≠0 then([],(qa8 t m u (onE t m.path ⟨b.edge,b.at_,s.rev⟩).1 false r).2)
   else(scT ((onE t m.path ⟨b.edge,b.at_,s.rev⟩).1-last) u::1::b.id/16384::b.id %16384::dirB s.rev::2::12::((if fst=true then[(m.path.length:Int)-2]else[])++(qa8 t m u (onE t m.path ⟨b.edge,b.at_,s.rev⟩).1 false r).1),0)
def qb0 (t:Tp3)(m:Ma3):List (Int×List Int)×Int:=
 if mayM t m=false then([],1)
 else if qdP (endM m+m.gap)<0 then([],7)
 else match qcU m (qdP (endM m+m.gap))with
  |none=>([],7)
  |some v=>
   if m.path.length=1 then([(15,v)],0)
   else if(qa8 t m (qdP (endM m+m.gap)) (qbG t m) true (m.path.drop 1)).2≠0 then([],(qa8 t m (qdP (endM m+m.gap)) (qbG t m) true (m.path.drop 1)).2)
   else([(15,v),(5,dirB m.rev::qdP (endM m+m.gap)::(qa8 t m (qdP (endM m+m.gap)) (qbG t m) true (m.path.drop 1)).1)],0)
def qar (u:Int):Nat->Int->List Int->List Sc3×List Int×Int
 |0,_,v=>([],v,0)
 |k+1,to_,v=>
  if v.getD 1 0≠1 then([],[],20)
  else if v.getD 2 0<1\/1000<v.getD 2 0\/v.getD 0 0=0 then([],[],20)
  else if(dmOf (v.getD 0 0) u).2≠0 then([],[],7)
  else
   let r:=qar u k (to_+(dmOf (v.getD 0 0) u).1) (v.drop 4)
   if r.2.2≠0 then([],[],r.2.2)else(⟨to_+(dmOf (v.getD 0 0) u).1,v.getD 2 0⟩::r.1,r.2.1,0)
def gapE (v:List Int)(u:Int):Int×Int:=
 let v:=if v.getD 0 0=1 then v.drop 2 else v
 if v.getD 1 0≠1 then(0,0)else if(dmOf (v.getD 2 0) u).2≠0 then(0,7)else((dmOf (v.getD 2 0) u).1,0)
def qbP (t:Tp3)(path:List St3)(v:List Int):List St3×Int:=
 if v.getD 1 0≠1 then([],20)
 else match balF t (v.getD 2 0*16384+v.getD 3 0)with
  |none=>([],4)
  |some b=>
   if b.edge=(lastS path).edge then(path,0)
   else if mayT t (lastS path) ⟨b.edge,v.getD 4 0==0⟩=false then([],141)
   else if metS path [⟨b.edge,v.getD 4 0==0⟩]=true\/path.length=24 then([],2)
   else(path++[⟨b.edge,v.getD 4 0==0⟩],0)
def linkGo (t:Tp3):Nat->List St3->List Int->List St3×Int
 |0,path,_=>(path,0)
 |k+1,path,v=>if(qbP t path v).2≠0 then([],(qbP t path v).2)else linkGo t k (qbP t path v).1 (v.drop 7)
def qej (t:Tp3)(path:List St3)(v:List Int):List St3×Int:=
 if(qbP t path (v.drop 2)).2≠0 then([],(qbP t path (v.drop 2)).2)else linkGo t (v.getD 9 0).toNat (qbP t path (v.drop 2)).1 (v.drop 10)
def readE (t:Tp3)(ok:Int×List Int->Bool)(ref:Int)(rev:Bool)(l:List (Int×List Int)):Ma3×Int:=
 if qaE t≠0 then(noMa,1)
 else match balF t ref with
  |none=>(noMa,4)
  |some b=>
   match l with
   |[]=>(noMa,50)
   |(id,v)::_=>
    if id≠15\/l.all ok=false then(noMa,50)
    else if v.getD 0 0≠dirB rev then(noMa,20)
    else if 7<v.getD 4 0 then(noMa,2)
    else
     let s:=qar (v.getD 1 0) (v.getD 4 0+1).toNat 0 (v.drop 5)
     if s.2.2≠0 then(noMa,s.2.2)
     else if(gapE s.2.1 (v.getD 1 0)).2≠0 then(noMa,(gapE s.2.1 (v.getD 1 0)).2)
     else
      let p:List St3×Int:=match l.find? fun q=>q.1==5 with
       |none=>([⟨b.edge,rev⟩],0)
       |some q=>qej t [⟨b.edge,rev⟩] q.2
      if p.2≠0 then(noMa,p.2)
      else if mayM t ⟨ref,rev,p.1,s.1,(gapE s.2.1 (v.getD 1 0)).1⟩=true then(⟨ref,rev,p.1,s.1,(gapE s.2.1 (v.getD 1 0)).1⟩,0)else(noMa,7)
/-! ## Rounding -/
theorem qf8 {t:Tp3}(h:qaE t=0): ∀i,i<t.bals.length->balE t i=0:=by
 unfold qaE at h;by_cases h1:longB t=true
 ·rw[if_pos h1]at h;exact absurd h (by decide)
 ·rw[if_neg h1]at h
  by_cases h2:qav t=true
  ·rw[if_pos h2]at h
   by_cases h3:qaF (qbl t) t.joints.length=0
   ·rw[if_pos h3]at h
    by_cases h4:qaF (balE t) t.bals.length=0
    ·exact qgf.1 h4
    ·rw[if_neg h4]at h;exact absurd h h4
   ·rw[if_neg h3]at h;exact absurd h h3
  ·rw[if_neg h2]at h;exact absurd h (by decide)
theorem bal_find {t:Tp3}(hc:qaE t=0){b:Bl3}(hb:b∈t.bals):0<=b.id/\b.id<=16777214/\edgeB t b.edge=true/\balF t b.id=some b:=by
 obtain⟨i,hi⟩:=List.getElem?_of_mem hb;have h0:=qf8 hc i (List.getElem?_eq_some_iff.1 hi).1;unfold balE at h0;rw[hi]at h0;simp only at h0;split at h0
 ·rename_i h1
  simp only[Bool.and_eq_true,decide_eq_true_eq]at h1;refine⟨h1.1.1.1.1,h1.1.1.1.2,h1.1.1.2,qgd hi (by simp) ?_⟩;by_cases ht:((t.bals.take i).any fun x=>x.id==b.id)=true
  ·rw[if_pos ht]at h0;exact absurd h0 (by decide)
  ·simpa using ht
 ·exact absurd h0 (by decide)
end
section
/-! ## Where a group lies -/
theorem bal_on17 {t:Tp3}(hc:qaE t=0){ref:Int}{b:Bl3}(hb:balF t ref=some b)(rev:Bool):qa4 t ⟨b.edge,b.at_,rev⟩=true:=by
 obtain⟨i,hi⟩:=List.getElem?_of_mem (List.mem_of_find?_eq_some hb);have h0:=qf8 hc i (List.getElem?_eq_some_iff.1 hi).1;unfold balE at h0;rw[hi]at h0;simp only at h0;split at h0
 ·rename_i h1
  simp only[Bool.and_eq_true,decide_eq_true_eq]at h1;exact qaO.2 ⟨hc,qbh.2 ⟨h1.1.1.2,h1.1.2,h1.2⟩⟩
 ·exact absurd h0 (by decide)
theorem qcB (t:Tp3)(ref:Int)(rev:Bool):locE t ref rev 0=if qaE t=0 then(match balF t ref with|some b=>((⟨b.edge,b.at_,rev⟩,0):Ps3×Int)|none=>(zeroP,4))else(zeroP,1):=by
 unfold locE;split
 ·rename_i hc
  cases hb:balF t ref with
  |none=>rfl
  |some b=>
   dsimp only;have hr:=bal_on17 hc hb rev;unfold walkE;rw[if_pos ⟨hr,Int.le_refl _,by decide⟩,qcM (qcP (qaD hc).1 (qaO.1 hr).2).1,qgo]
 ·rfl
theorem qcY {t:Tp3}{ref:Int}{rev:Bool}{x:Ps3}(h:locE t ref rev 0=(x,0)):qaE t=0/\(balF t ref).isSome=true/\qa4 t x=true/\ ∀m:Ma3,m.ref=ref->m.rev=rev->qc3 t m=x:=by
 rw[qcB]at h;split at h
 ·rename_i hc
  cases hb:balF t ref with
  |none=>rw[hb]at h;exact absurd (show(4:Int)=0 from congrArg Prod.snd h) (by decide)
  |some b=>
   rw[hb]at h;dsimp only at h;injection h with h _
   subst h;refine⟨hc,rfl,bal_on17 hc hb rev,fun m h1 h2=>?_⟩;unfold qc3;rw[h1,hb,h2]
 ·exact absurd (show(1:Int)=0 from congrArg Prod.snd h) (by decide)
theorem loc_none17 {t:Tp3}{ref:Int}{rev:Bool}(h:(locE t ref rev 0).2≠0):qaE t≠0\/(balF t ref).isSome=false:=by
 rw[qcB]at h;split at h
 ·cases hb:balF t ref with
  |none=>exact .inr rfl
  |some b=>rw[hb]at h;exact absurd rfl h
 ·exact .inl (by assumption)
theorem loc_group17 {t:Tp3}{ref:Int}{rev:Bool}{n:Int}{x:Ps3}(h:locE t ref rev n=(x,0)): ∃p,locE t ref rev 0=(p,0)/\walkE t p n=(x,0)/\qc3 t ⟨ref,rev,[],[],0⟩=p:=by
 rw[qcB];unfold locE at h;split at h
 ·rename_i hc
  rw[if_pos hc];unfold qc3;dsimp only
  cases hb:balF t ref with
  |none=>rw[hb]at h;exact absurd (show(4:Int)=0 from congrArg Prod.snd h) (by decide)
  |some b=>rw[hb]at h;exact⟨_,rfl,h,rfl⟩
 ·exact absurd (show(1:Int)=0 from congrArg Prod.snd h) (by decide)
theorem qc9 {t:Tp3}{p:Ps3}(h:qa4 t p=true):onE t [stepP p] p=(intoP t p,0):=by
 have hl:lenE t [stepP p]=0:=by
  unfold lenE;rw[if_neg (by simp),if_pos (by simp only[List.all_cons,List.all_nil,Bool.and_true];exact(qbh.1 (qaO.1 h).2).1),if_pos (show wayB t [stepP p]=true from rfl)]
 unfold onE;rw[if_pos h,if_pos hl];have h1:onGo t p [stepP p] 0=some (intoP t p):=by
  rw[onGo,if_pos ((qaX _ _).2 rfl)];unfold intoP;rw[Int.zero_add]
 rw[h1]
theorem qb3 {t:Tp3}(ht:qav t=true){p:Ps3}(h:onB t p=true):0<=intoP t p/\intoP t p<=lenAt t (stepP p):=by
 have h1:=qcP ht h;have h2:=qbh.1 h;unfold intoP;rw[qcc];show 0<=qat t p.edge-qaB t p/\qat t p.edge-qaB t p<=qat t p.edge
 refine⟨?_,by omega⟩;unfold qaB;split<;>omega
theorem qcQ {t:Tp3}{m:Ma3}{x:Ps3}(hp:qc3 t m=x)(hr:qa4 t x=true)(hl:lenE t m.path=0)(hf:qge m.path (stepP x)=true):qbG t m=intoP t x:=by
 unfold qbG onE;rw[hp,if_pos hr,if_pos hl];unfold qge at hf
 cases hq:m.path with
 |nil=>rw[hq]at hf;cases hf
 |cons y r=>
  rw[hq]at hf;dsimp only at hf⊢;rw[onGo,if_pos hf,(qaX _ _).1 hf];unfold intoP;show 0+lenAt t (stepP x)-qaB t x=_
  omega
/-! ## May -/
def risB:Int->List Sc3->Bool
 |_,[]=>true
 |p,s::r=>decide (p<s.to_) &&(decide (1<=s.timer) &&(decide (s.timer<=1000) &&risB s.to_ r))
theorem ris_cons {p:Int}{s:Sc3}{r:List Sc3}:risB p (s::r)=true↔p<s.to_/\1<=s.timer/\s.timer<=1000/\risB s.to_ r=true:=by
 rw[risB];simp only[Bool.and_eq_true,decide_eq_true_eq]
theorem ris_last {p:Int}{l:List Sc3}(h:risB p l=true):p<=qbt p l:=by
 induction l generalizing p with
 |nil=>exact Int.le_refl _
 |cons s r ih=>
  have h1:=ris_cons.1 h;have h2:=ih h1.2.2.2;show p<=qbt s.to_ r
  omega
theorem ris_of_secs {p:Int}{l:List Sc3}(h:secsB p l=true):risB p l=true:=by
 induction l generalizing p with
 |nil=>rfl
 |cons s r ih=>
  have h1:=qfK.1 h;exact ris_cons.2 ⟨h1.1,h1.2.2.1,h1.2.2.2.1,ih h1.2.2.2.2⟩
theorem secs_of_ris {p:Int}{l:List Sc3}(h:risB p l=true)(hl:qbt p l<=100000000):secsB p l=true:=by
 induction l generalizing p with
 |nil=>rfl
 |cons s r ih=>
  have h1:=ris_cons.1 h;have h2:=ris_last h1.2.2.2;have h3:qbt s.to_ r<=100000000:=hl;exact qfK.2 ⟨h1.1,by omega,h1.2.1,h1.2.2.1,ih h1.2.2.2 h3⟩
theorem may_no17 {t:Tp3}{m:Ma3}(h:(locE t m.ref m.rev 0).2≠0):mayM t m=false:=by
 cases hq:mayM t m with
 |false=>rfl
 |true=>
  have hm:=qdW.1 hq
  rcases loc_none17 h with h1|h1
  ·exact absurd hm.check h1
  ·rw[hm.bal]at h1;cases h1
def qdH (t:Tp3)(path:List St3):Bool:=decide (lenE t path=0) &&(decide (path.length<=24) &&!qbs path)
def qdB (l:List Sc3):Bool:=risB 0 l &&(decide (1<=l.length) &&decide (l.length<=8))
theorem may_own17 {t:Tp3}{m:Ma3}{x:Ps3}(h:locE t m.ref m.rev 0=(x,0)):mayM t m=((qdH t m.path &&(qge m.path (stepP x) &&qdB m.sects)) &&(decide (0<=m.gap) &&decide (m.gap<=sumT t m.path-intoP t x-endM m))):=by
 obtain⟨hc,hb,hr,hp⟩:=qcY h;have hp:=hp m rfl rfl;have ht:=(qaD hc).1;rw[Bool.eq_iff_iff,qdW];unfold qdH qdB;simp only[Bool.and_eq_true,decide_eq_true_eq,Bool.not_eq_true']
 constructor
 ·intro hm
  have hf:=hm.first
  rw[hp]at hf;have hi:=qcQ hp hr hm.len hf;have h1:=hm.fits;exact⟨⟨⟨hm.len,hm.few,hm.once⟩,hf,ris_of_secs hm.secs,hm.one,hm.eight⟩,hm.gap0,by omega⟩
 ·rintro⟨⟨⟨h1,h2,h3⟩,h4,h5,h6,h7⟩,h8,h9⟩
  have hi:=qcQ hp hr h1 h4;have h0:=(qb3 ht (qaO.1 hr).2).1;have hs:=(qck ht (qdV h1).2.2.1).2;have hl:=ris_last h5;have he:endM m=qbt 0 m.sects:=rfl;refine⟨hc,hb,h2,h6,h7,h8,by omega,by rw[hp];exact h4,h3,h1,secs_of_ris h5 (by omega),by omega⟩
/-! ## The chain -/
def goesB (path:List St3)(e:Int):Bool:=path.any fun s=>s.edge==e
def qeL (a b:List St3):Bool:=a.any fun s=>goesB b s.edge
def qc5 (path steps:List St3):Bool:=
 match path with
 |[]=>false
 |x::_=>qb1 steps x
def fitsO (t:Tp3)(s:St3)(out:List Lc3)(route:List St3):Bool:=
 if out.isEmpty=true then qb1 route s else qc5 route (qau t (lastS (wayC t out))) &&!qeL route (wayC t out)
theorem meets_met17 (a b:List St3):qeL a b=metS b a:=by
 rw[Bool.eq_iff_iff];unfold qeL goesB metS;simp only[List.any_eq_true,beq_iff_eq]
 constructor
 ·rintro⟨x,hx,y,hy,e⟩
  exact⟨y,hy,x,hx,e⟩
 ·rintro⟨y,hy,x,hx,e⟩
  exact⟨x,hx,y,hy,e⟩
theorem last_mem17 {l:List St3}(h:l≠[]):lastS l∈l:=by
 unfold lastS;rw[List.getLastD_eq_getLast?,List.getLast?_eq_some_getLast h];exact List.getLast_mem h
theorem qeD {t:Tp3}{l:List Lc3}{train:Int}{s:St3}{out:List Lc3}(h:ChainP t l train s out): ∀x∈out,(qaS t x.route).isSome=true:=fun x hx=>by
 obtain⟨i,hi⟩:=List.getElem?_of_mem hx;exact(h.at hi).rt
theorem fits_okC17 {t:Tp3}{l:List Lc3}{train:Int}{s:St3}{out:List Lc3}(hc:qaE t=0)(h:ChainP t l train s out)(k:Lc3):okC t train s out k=(k.train==train &&fitsO t s out (pathR t k.route)):=by
 unfold okC fitsO
 cases hr:qaS t k.route with
 |none=>
  have hp:pathR t k.route=[]:=by unfold pathR;rw[hr]
  rw[hp];simp only[Option.isSome,Bool.and_false,Bool.false_and];split
  ·simp[qb1]
  ·simp[qc5]
 |some r=>
  obtain⟨r',h1,h2,h3⟩:=qcG hc (id:=k.route) (by rw[hr];rfl);rw[hr]at h1;injection h1 with h1
  subst h1;have hro:=qd6 h3;simp only[Option.isSome,Bool.and_true]
  congr 1
  cases out with
  |nil=>simp
  |cons y q=>
   rw[if_neg (by simp),if_neg (by simp),meets_met17];have hsome:=qeD h;have hedge:=qgb hc hsome;have hy:pathR t y.route≠[]:=by
    obtain⟨ry,g1,g2,g3⟩:=qcG hc (hsome y (List.mem_cons_self ..));rw[g2];have:=(qd6 g3).2.1;intro e;rw[e]at this;exact absurd this (by simp)
   have hne:wayC t (y::q)≠[]:=by
    unfold wayC;rw[List.flatMap_cons];exact fun e=>hy (List.append_eq_nil_iff.1 e).1
   have hb:qc5 (pathR t k.route) (qau t (lastS (wayC t (y::q))))=mayT t (lastS (wayC t (y::q))) (headS (pathR t k.route)):=by
    have hp:pathR t k.route≠[]:=by
     rw[h2];intro e;have:=hro.2.1;rw[e]at this;exact absurd this (by simp)
    cases hq:pathR t k.route with
    |nil=>exact absurd hq hp
    |cons a b=>
     show qb1 (qau t _) a=mayT t _ a
     rw[Bool.eq_iff_iff,qc4,qbd];have hea:edgeB t a.edge=true:=hro.2.2.2.1 a (by rw[<-h2,hq];exact List.mem_cons_self ..);exact⟨fun g=>g.2.2,fun g=>⟨hedge _ (last_mem17 hne),hea,g⟩⟩
   rw[hb]
   cases hm:metS (wayC t (y::q)) (pathR t k.route)with
   |true=>simp
   |false=>
    have hk:((y::q).any fun x=>eqK x k)=false:=any_eqK.2 fun hk=>by
     have hp:pathR t k.route≠[]:=by
      rw[h2];intro e;have:=hro.2.1;rw[e]at this;exact absurd this (by simp)
     obtain⟨a,ha⟩:=List.exists_mem_of_ne_nil _ hp;exact met_no.1 hm a (List.mem_flatMap.2 ⟨k,hk,ha⟩) a ha rfl
    rw[hk];simp
theorem find_own17 {t:Tp3}{l:List Lc3}{train:Int}{s:St3}{out:List Lc3}(hc:qaE t=0)(h:ChainP t l train s out):l.find? (okC t train s out)=(ofL l train).find? fun k=>fitsO t s out (pathR t k.route):=by
 have e1:okC t train s out=fun k=>k.train==train &&fitsO t s out (pathR t k.route):=funext (fits_okC17 hc h);rw[e1];unfold ofL;rw[List.find?_filter]
 congr 1
 funext k
 rw[Bool.eq_iff_iff];simp
theorem qfX {t:Tp3}{l:List Lc3}{train:Int}{s:St3}{out:List Lc3}{x:Lc3}(h:ChainP t l train s out)(hx:l.find? (okC t train s out)=some x):ChainP t l train s (out++[x]):=h.snoc (okC_step (List.mem_of_find?_eq_some hx) (by simpa using List.find?_some hx))
/-! ## The way walked -/
theorem gone_next17 {t:Tp3}(ht:qav t=true){p x:Ps3}{n:Int}{G pre:List St3}{s:St3}{k:Nat}{left:Int}(hG:GoneP t p x n G)(h:pre++qaW t k s left=G)(hs:sumT t pre+lenAt t s+left=intoP t p+n)(h0:0<left):
  ∃y j,k=j+1/\qau t s=[y]/\(pre++[s])++qaW t j y (left-lenAt t y)=G/\sumT t (pre++[s])+lenAt t y+(left-lenAt t y)=intoP t p+n:=by
 have hstop:qaW t k s left≠[s]:=fun e=>by
  rw[e]at h;obtain⟨pre',h1,h2⟩:=hG.split;rw[<-h]at h1;obtain⟨e1,e2⟩:=List.append_inj' h1 rfl;injection e2 with e2 _
  subst e1;have h3:=qb3 ht hG.on;rw[<-e2]at h3;omega
 cases k with
 |zero=>exact absurd rfl hstop
 |succ j=>
  rw[qaW,if_pos h0]at h hstop;split at h
  ·rename_i y hy
   refine⟨y,j,rfl,hy,by rw[List.append_assoc];exact h,?_⟩;rw[qew];show sumT t pre+(lenAt t s+0)+_+_=_
   omega
  ·rename_i hno
   split at hstop
   ·rename_i y hy
    exact absurd hy (hno y)
   ·exact absurd rfl hstop
theorem gone_end17 {t:Tp3}{s:St3}{k:Nat}{left:Int}(h: ¬0<left):qaW t k s left=[s]:=by
 cases k with
 |zero=>rfl
 |succ j=>rw[qaW,if_neg h]
/-! ## The authority -/
def behS (path:List St3)(s:St3):List St3:=if qb1 path s=true then qeA path s else path
def qb6 (t:Tp3)(b0:Int)(s:St3):List St3->List Lc3->List Sc3
 |_,[]=>[]
 |path,k::r=>⟨sumT t (path++behS (pathR t k.route) s)-b0,qfS t k.route⟩::qb6 t b0 s (path++behS (pathR t k.route) s) r
def authP (t:Tp3)(s:St3)(c:List Lc3):List St3:=c.flatMap fun k=>behS (pathR t k.route) s
theorem qdC {path:List St3}{s:St3}(h:s∈path):behS path s=qeA path s:=by
 unfold behS;rw[if_pos ((qc4 _ _).2 h)]
theorem qe9 {path:List St3}{s:St3}(h:s∉path):behS path s=path:=by
 unfold behS;rw[if_neg (fun e=>h ((qc4 _ _).1 e))]
theorem beh_at17 {path:List St3}{s:St3}{i:Nat}(hi:path[i]?=some s)(hno: ∀(j:Nat) (y:St3),j<i->path[j]?=some y->eqS y s=false):behS path s=path.drop (i+1):=by
 rw[qdC (List.mem_of_getElem? hi)];unfold qeA
 induction path generalizing i with
 |nil=>cases hi
 |cons x r ih=>
  cases i with
  |zero=>
   injection hi with hi
   subst hi;rw[List.dropWhile_cons,if_neg (by rw[(qaX _ _).2 rfl];decide)]
  |succ j=>
   rw[List.dropWhile_cons,if_pos (by rw[hno 0 x (by omega) rfl];decide)];exact ih (i:=j) hi fun m y hm hy=>hno (m+1) y (by omega) hy
theorem beh_none17 {path:List St3}{s:St3}(hno: ∀(j:Nat) (y:St3),path[j]?=some y->eqS y s=false):behS path s=path:=by
 refine qe9 fun h=>?_;obtain⟨i,hi⟩:=List.getElem?_of_mem h;have:=hno i s hi;rw[(qaX _ _).2 rfl]at this
 cases this
theorem auth_rest17 {t:Tp3}{b0:Int}{s:St3}{r:List Lc3}{g:List St3}(h: ∀k∈r,s∉pathR t k.route):qb6 t b0 s g r=qee t b0 g r/\authP t s r=wayC t r:=by
 induction r generalizing g with
 |nil=>exact⟨rfl,rfl⟩
 |cons k r ih=>
  have h1:=qe9 (h k (List.mem_cons_self ..));obtain⟨h2,h3⟩:=ih (g:=g++pathR t k.route) fun y hy=>h y (List.mem_cons_of_mem _ hy);unfold authP wayC at h3⊢;rw[qb6,qee,List.flatMap_cons,List.flatMap_cons,h1,h2,h3];exact⟨rfl,rfl⟩
theorem auth_raw17 {t:Tp3}{l:List Lc3}{train:Int}{s:St3}{c:List Lc3}(h:ChainP t l train s c)(b0:Int)(g:List St3)(hc:c≠[]):qb6 t b0 s g c=rawB t b0 g s c/\g++authP t s c=fullB t g s c:=by
 cases c with
 |nil=>exact absurd rfl hc
 |cons k r=>
  have hk:s∈pathR t k.route:=(h.at (i:=0) (x:=k) rfl).first rfl
  have hr: ∀y∈r,s∉pathR t y.route:=fun y hy hm=>by
   obtain⟨i,hi⟩:=List.getElem?_of_mem hy;have h1:=(h.at (i:=i+1) (x:=y) (by simpa using hi)).apart s (List.mem_flatMap.2 ⟨k,by rw[List.take_succ_cons];exact List.mem_cons_self ..,hk⟩) s hm;exact h1 rfl
  obtain⟨h1,h2⟩:=auth_rest17 (b0:=b0) (g:=g++behS (pathR t k.route) s) hr;rw[qb6,rawB,fullB,h1,qdC hk];refine⟨rfl,?_⟩;unfold authP at h2⊢;rw[List.flatMap_cons,h2,qdC hk,List.append_assoc]
theorem auth_snoc17 {t:Tp3}{b0:Int}{s:St3}{k:Lc3}{c:List Lc3}{g:List St3}:qb6 t b0 s g (c++[k])=qb6 t b0 s g c++[⟨sumT t (g++authP t s (c++[k]))-b0,qfS t k.route⟩]/\authP t s (c++[k])=authP t s c++behS (pathR t k.route) s:=by
 have h2:authP t s (c++[k])=authP t s c++behS (pathR t k.route) s:=by
  unfold authP;rw[List.flatMap_append];simp
 refine⟨?_,h2⟩;rw[h2];clear h2
 induction c generalizing g with
 |nil=>rfl
 |cons x r ih=>
  rw[List.cons_append,qb6,qb6,ih];unfold authP;rw[List.flatMap_cons,List.cons_append];simp only[List.append_assoc]
end
section
open Go.RowKit
theorem qbx {α:Type}{f:α->List Value}{k:Nat}(hf: ∀x,(f x).length=k)(l:List α):(l.flatMap f).length=l.length*k:=by
 induction l with
 |nil=>simp
 |cons x r ih=>rw[List.flatMap_cons,List.length_append,hf,ih,List.length_cons,Nat.succ_mul,Nat.add_comm]
theorem qfg {α:Type}{f:α->List Value}{k:Nat}(hf: ∀x,(f x).length=k){l:List α}{j:Nat}{x:α}(hx:l[j]?=some x){i:Nat}(hi:i<k):(l.flatMap f)[j*k+i]?=(f x)[i]?:=by
 induction l generalizing j with
 |nil=>simp at hx
 |cons y r ih=>
  rw[List.flatMap_cons]
  cases j with
  |zero=>
   simp at hx;subst hx;rw[List.getElem?_append_left (by rw[hf];omega)];simp
  |succ m=>
   have e:(m+1)*k=m*k+k:=Nat.succ_mul m k;rw[List.getElem?_append_right (by rw[hf];omega),hf,show(m+1)*k+i-k=m*k+i by omega];exact ih (by simpa using hx)
def SlO {α:Type}(f:α->List Value)(k:Nat)(w:World)(A:Option Addr)(n c:Nat)(l:List α):Prop:=l.length=n/\Sl w k A n c (l.flatMap f)
theorem SlO.under {α:Type}{f:α->List Value}{k:Nat}{w w':World}{A:Option Addr}{n c:Nat}{l:List α}(h:SlO f k w A n c l)(hb:Below w.heap.size w w'):SlO f k w' A n c l:=⟨h.1,h.2.under hb⟩
theorem SlO.at_ {α:Type}{f:α->List Value}{k:Nat}{w:World}{A:Option Addr}{n c:Nat}{l:List α}(h:SlO f k w A n c l)(hf: ∀x,(f x).length=k)(hk:0<k){j:Nat}{x:α}(hx:l[j]?=some x):
  ∃b off,A=some ⟨b,off,none⟩/\ ∀i u,(f x)[i]?=some u->w.cell? ⟨b,off+j*k+i,none⟩=some u:=by
 obtain⟨u0,hu0⟩: ∃u,(f x)[0]?=some u:=⟨_,List.getElem?_eq_getElem (by rw[hf];exact hk)⟩
 obtain⟨b,off,e,_⟩:=h.2.at_ (j:=j*k+0) (u:=u0) (by rw[qfg hf hx hk];exact hu0);refine⟨b,off,e,fun i u hu=>?_⟩;have hi:i<k:=by rw[<-hf x];exact(List.getElem?_eq_some_iff.1 hu).1
 obtain⟨b',off',e',hc⟩:=h.2.at_ (j:=j*k+i) (u:=u) (by rw[qfg hf hx hi];exact hu);rw[e]at e';injection e' with e'
 injection e' with e1 e2 _
 subst e1 e2;rw[Nat.add_assoc];exact hc
theorem SlO.nil {α:Type}(f:α->List Value)(k:Nat)(w:World):SlO f k w none 0 0 []:=⟨rfl,qfO _ _⟩
def inC (x:Int):List Value:=[.int .i64 x]
def stC (s:St3):List Value:=[.int .i64 s.edge,.bool s.rev]
def jtC (j:Jt3):List Value:=[.int .i64 j.a.1,.int .i64 j.a.2,.int .i64 j.b.1,.int .i64 j.b.2]
def blC (b:Bl3):List Value:=[.int .i64 b.id,.int .i64 b.edge,.int .i64 b.at_]
def rtC (p:Rt3×Value):List Value:=[.int .i64 p.1.id,p.2,.int .i64 p.1.gap,.int .i64 p.1.timer]
def PathV (w:World)(v:Value)(path:List St3):Prop:= ∃A c,v= .slice A path.length c/\SlO stC 2 w A path.length c path
theorem PathV.under {w w':World}{v:Value}{path:List St3}(h:PathV w v path)(hb:Below w.heap.size w w'):PathV w' v path:=by
 obtain⟨A,c,e,hs⟩:=h;exact⟨A,c,e,hs.under hb⟩
def CapV (v:Value):Prop:= ∀A n c,v= .slice A n c->n<=c
def RtsR (w:World)(A:Option Addr)(n c:Nat)(rs:List Rt3):Prop:= ∃l:List (Rt3×Value),l.map (·.1)=rs/\SlO rtC 4 w A n c l/\ ∀p∈l,PathV w p.2 p.1.path/\CapV p.2
theorem RtsR.under {w w':World}{A:Option Addr}{n c:Nat}{rs:List Rt3}(h:RtsR w A n c rs)(hb:Below w.heap.size w w'):RtsR w' A n c rs:=by
 obtain⟨l,h1,h2,h3⟩:=h;exact⟨l,h1,h2.under hb,fun p hp=>⟨(h3 p hp).1.under hb,(h3 p hp).2⟩⟩
theorem RtsR.cap_at {w:World}{A:Option Addr}{n c:Nat}{rs:List Rt3}(h:RtsR w A n c rs){j:Nat}{r:Rt3}(hr:rs[j]?=some r):
  ∃b off PA pc,A=some ⟨b,off,none⟩/\SlO stC 2 w PA r.path.length pc r.path/\w.cell? ⟨b,off+j*4,none⟩=some (.int .i64 r.id)/\w.cell? ⟨b,off+j*4+1,none⟩=some (.slice PA r.path.length pc)/\w.cell? ⟨b,off+j*4+2,none⟩=some (.int .i64 r.gap)/\w.cell? ⟨b,off+j*4+3,none⟩=some (.int .i64 r.timer)/\r.path.length<=pc:=by
 obtain⟨l,rfl,h2,h3⟩:=h;rw[List.getElem?_map]at hr;obtain⟨p,hp,rfl⟩:=Option.map_eq_some_iff.1 hr;obtain⟨b,off,e,hc⟩:=h2.at_ (fun _=>rfl) (by decide) hp;obtain⟨⟨PA,pc,ev,hs⟩,hcv⟩:=h3 p (List.mem_of_getElem? hp);have hcap:=hcv _ _ _ ev;have h1:=hc 1 p.2 rfl;rw[ev]at h1;exact⟨b,off,PA,pc,e,hs,hc 0 _ rfl,h1,hc 2 _ rfl,hc 3 _ rfl,hcap⟩
theorem RtsR.at_ {w:World}{A:Option Addr}{n c:Nat}{rs:List Rt3}(h:RtsR w A n c rs){j:Nat}{r:Rt3}(hr:rs[j]?=some r):
  ∃b off PA pc,A=some ⟨b,off,none⟩/\SlO stC 2 w PA r.path.length pc r.path/\w.cell? ⟨b,off+j*4,none⟩=some (.int .i64 r.id)/\w.cell? ⟨b,off+j*4+1,none⟩=some (.slice PA r.path.length pc)/\w.cell? ⟨b,off+j*4+2,none⟩=some (.int .i64 r.gap)/\w.cell? ⟨b,off+j*4+3,none⟩=some (.int .i64 r.timer):=by
 obtain⟨b,off,PA,pc,h1,h2,h3,h4,h5,h6,_⟩:=h.cap_at hr;exact⟨b,off,PA,pc,h1,h2,h3,h4,h5,h6⟩
structure TpA where
 ae:Option Addr
 ce:Nat
 aj:Option Addr
 cj:Nat
 ab:Option Addr
 cb:Nat
 ar:Option Addr
 cr:Nat
def tpC (t:Tp3)(a:TpA):Array Value:=#[.slice a.ae t.edges.length a.ce,.slice a.aj t.joints.length a.cj,.slice a.ab t.bals.length a.cb,.slice a.ar t.routes.length a.cr]
structure TopR (w:World) (t:Tp3) (a:TpA):Prop where
 e:SlO inC 1 w a.ae t.edges.length a.ce t.edges
 j:SlO jtC 4 w a.aj t.joints.length a.cj t.joints
 b:SlO blC 3 w a.ab t.bals.length a.cb t.bals
 r:RtsR w a.ar t.routes.length a.cr t.routes
theorem TopR.under {w w':World}{t:Tp3}{a:TpA}(h:TopR w t a)(hb:Below w.heap.size w w'):TopR w' t a:=⟨h.e.under hb,h.j.under hb,h.b.under hb,h.r.under hb⟩
theorem qax {t:Tp3}(h:qaH t=true):t.edges.length<=100/\t.joints.length<=100/\t.bals.length<=100/\t.routes.length<=100/\ ∀r∈t.routes,r.path.length<=100:=by
 unfold qaH at h;simp only[Bool.and_eq_true,decide_eq_true_eq,List.all_eq_true]at h;exact h
theorem SlO.edge {w:World}{A:Option Addr}{n c:Nat}{l:List Int}(h:SlO inC 1 w A n c l){j:Nat}(hj:j<n): ∃b off,A=some ⟨b,off,none⟩/\w.cell? ⟨b,off+j,none⟩=some (.int .i64 (l.getD j 0)):=by
 have hl:j<l.length:=by rw[h.1];exact hj
 obtain⟨b,off,e,hc⟩:=h.at_ (fun _=>rfl) (by decide) (List.getElem?_eq_getElem hl);refine⟨b,off,e,?_⟩;rw[List.getD_eq_getElem?_getD,List.getElem?_eq_getElem hl];have:=hc 0 _ rfl
 simpa using this
theorem SlO.joint {w:World}{A:Option Addr}{n c:Nat}{l:List Jt3}(h:SlO jtC 4 w A n c l){j:Nat}{x:Jt3}(hx:l[j]?=some x):
  ∃b off,A=some ⟨b,off,none⟩/\w.cell? ⟨b,off+j*4,none⟩=some (.int .i64 x.a.1)/\w.cell? ⟨b,off+j*4+1,none⟩=some (.int .i64 x.a.2)/\w.cell? ⟨b,off+j*4+2,none⟩=some (.int .i64 x.b.1)/\w.cell? ⟨b,off+j*4+3,none⟩=some (.int .i64 x.b.2):=by
 obtain⟨b,off,e,hc⟩:=h.at_ (fun _=>rfl) (by decide) hx;exact⟨b,off,e,hc 0 _ rfl,hc 1 _ rfl,hc 2 _ rfl,hc 3 _ rfl⟩
theorem SlO.bal {w:World}{A:Option Addr}{n c:Nat}{l:List Bl3}(h:SlO blC 3 w A n c l){j:Nat}{x:Bl3}(hx:l[j]?=some x):
  ∃b off,A=some ⟨b,off,none⟩/\w.cell? ⟨b,off+j*3,none⟩=some (.int .i64 x.id)/\w.cell? ⟨b,off+j*3+1,none⟩=some (.int .i64 x.edge)/\w.cell? ⟨b,off+j*3+2,none⟩=some (.int .i64 x.at_):=by
 obtain⟨b,off,e,hc⟩:=h.at_ (fun _=>rfl) (by decide) hx;exact⟨b,off,e,hc 0 _ rfl,hc 1 _ rfl,hc 2 _ rfl⟩
theorem SlO.step {w:World}{A:Option Addr}{n c:Nat}{l:List St3}(h:SlO stC 2 w A n c l){j:Nat}{x:St3}(hx:l[j]?=some x):
  ∃b off,A=some ⟨b,off,none⟩/\w.cell? ⟨b,off+j*2,none⟩=some (.int .i64 x.edge)/\w.cell? ⟨b,off+j*2+1,none⟩=some (.bool x.rev):=by
 obtain⟨b,off,e,hc⟩:=h.at_ (fun _=>rfl) (by decide) hx;exact⟨b,off,e,hc 0 _ rfl,hc 1 _ rfl⟩
end
section
open Go.RowKit
open Go.Great
theorem qa5 {P:Program}(w:World)(d:Nat)(xs ys:Array Value)(f:Field)(fs:List Field)(a b:Value)(hn:f.name≠ "_")(ha:(part f.type xs f.offset).run P w= .ok a w)(hb:(part f.type ys f.offset).run P w= .ok b w)(he:(Op.equalIn d f.type a b).run P w= .ok false w):
  (Op.eqFields d xs ys (f::fs)).run P w= .ok false w:=by
 simp[Op.eqFields,hn,ha,hb,he]
def endA (a:Int×Int):Array Value:=#[.int .i64 a.1,.int .i64 a.2]
def stA13 (s:St3):Array Value:=#[.int .i64 s.edge,.bool s.rev]
def blA (b:Bl3):Array Value:=#[.int .i64 b.id,.int .i64 b.edge,.int .i64 b.at_]
theorem qdp (a b:Int×Int)(W:World):(Op.equalIn 10000 147 (.agg (endA a)) (.agg (endA b))).run Tryz.prog W= .ok (eqE a b) W:=by
 rw[show(10000:Nat)=9999+1 from rfl,run_equalIn_struct W 9999 147 _ _ (by kernel_rfl) (by kernel_rfl)];simp only[Program.fieldsOf,Tryz.underlying147];unfold eqE endA;by_cases h0:a.1=b.1;rotate_left
 ·refine(qa5 W 9999 (endA a) (endA b) _ _ (.int .i64 a.1) (.int .i64 b.1) (by decide) (qag W 3 (endA a) 0 (.int .i64 a.1) (by kernel_rfl) rfl) (qag W 3 (endA b) 0 (.int .i64 b.1) (by kernel_rfl) rfl) (by rw[show(9999:Nat)=9998+1 from rfl,run_equalIn_int W 9998 3 .i64 .i64 _ _ Tryz.underlying3];simp[h0])).trans ?_
  have e:(a.1==b.1)=false:=by simp[h0]
  simp[e]
 refine(qaL W 9999 (endA a) (endA b) _ _ (.int .i64 a.1) (.int .i64 b.1) (by decide) (qag W 3 (endA a) 0 (.int .i64 a.1) (by kernel_rfl) rfl) (qag W 3 (endA b) 0 (.int .i64 b.1) (by kernel_rfl) rfl) (by rw[show(9999:Nat)=9998+1 from rfl,run_equalIn_int W 9998 3 .i64 .i64 _ _ Tryz.underlying3];simp[h0])).trans ?_;by_cases h1:a.2=b.2;rotate_left
 ·refine(qa5 W 9999 (endA a) (endA b) _ _ (.int .i64 a.2) (.int .i64 b.2) (by decide) (qag W 3 (endA a) 1 (.int .i64 a.2) (by kernel_rfl) rfl) (qag W 3 (endA b) 1 (.int .i64 b.2) (by kernel_rfl) rfl) (by rw[show(9999:Nat)=9998+1 from rfl,run_equalIn_int W 9998 3 .i64 .i64 _ _ Tryz.underlying3];simp[h1])).trans ?_
  have e:(a.2==b.2)=false:=by simp[h1]
  simp[e]
 refine(qaL W 9999 (endA a) (endA b) _ _ (.int .i64 a.2) (.int .i64 b.2) (by decide) (qag W 3 (endA a) 1 (.int .i64 a.2) (by kernel_rfl) rfl) (qag W 3 (endA b) 1 (.int .i64 b.2) (by kernel_rfl) rfl) (by rw[show(9999:Nat)=9998+1 from rfl,run_equalIn_int W 9998 3 .i64 .i64 _ _ Tryz.underlying3];simp[h1])).trans ?_;refine(qbN W 9999 _ _).trans ?_;simp[h0,h1]
theorem qcD:Tryz.prog.eqGuardType Tryz.prog.depth 30=false:=by kernel_rfl
theorem eq_st13 (a b:St3)(W:World):(Op.equalIn 10000 30 (.agg (stA13 a)) (.agg (stA13 b))).run Tryz.prog W= .ok (eqS a b) W:=by
 rw[show(10000:Nat)=9999+1 from rfl,run_equalIn_struct W 9999 30 _ _ (by kernel_rfl) (by kernel_rfl)];simp only[Program.fieldsOf,Tryz.underlying30];unfold eqS stA13;by_cases h0:a.edge=b.edge;rotate_left
 ·refine(qa5 W 9999 (stA13 a) (stA13 b) _ _ (.int .i64 a.edge) (.int .i64 b.edge) (by decide) (qag W 3 (stA13 a) 0 (.int .i64 a.edge) (by kernel_rfl) rfl) (qag W 3 (stA13 b) 0 (.int .i64 b.edge) (by kernel_rfl) rfl) (by rw[show(9999:Nat)=9998+1 from rfl,run_equalIn_int W 9998 3 .i64 .i64 _ _ Tryz.underlying3];simp[h0])).trans ?_
  have e:(a.edge==b.edge)=false:=by simp[h0]
  simp[e]
 refine(qaL W 9999 (stA13 a) (stA13 b) _ _ (.int .i64 a.edge) (.int .i64 b.edge) (by decide) (qag W 3 (stA13 a) 0 (.int .i64 a.edge) (by kernel_rfl) rfl) (qag W 3 (stA13 b) 0 (.int .i64 b.edge) (by kernel_rfl) rfl) (by rw[show(9999:Nat)=9998+1 from rfl,run_equalIn_int W 9998 3 .i64 .i64 _ _ Tryz.underlying3];simp[h0])).trans ?_;by_cases h1:a.rev=b.rev;rotate_left
 ·refine(qa5 W 9999 (stA13 a) (stA13 b) _ _ (.bool a.rev) (.bool b.rev) (by decide) (qag W 4 (stA13 a) 1 (.bool a.rev) (by kernel_rfl) rfl) (qag W 4 (stA13 b) 1 (.bool b.rev) (by kernel_rfl) rfl) (by rw[show(9999:Nat)=9998+1 from rfl,run_equalIn_bool' W 9998 4 _ _ Tryz.underlying4];simp[h1])).trans ?_
  have e:(a.rev==b.rev)=false:=by simp[h1]
  simp[e]
 refine(qaL W 9999 (stA13 a) (stA13 b) _ _ (.bool a.rev) (.bool b.rev) (by decide) (qag W 4 (stA13 a) 1 (.bool a.rev) (by kernel_rfl) rfl) (qag W 4 (stA13 b) 1 (.bool b.rev) (by kernel_rfl) rfl) (by rw[show(9999:Nat)=9998+1 from rfl,run_equalIn_bool' W 9998 4 _ _ Tryz.underlying4];simp[h1])).trans ?_;refine(qbN W 9999 _ _).trans ?_;simp[h0,h1]
theorem eql_st13 (a b:St3)(W:World):(binOp .eql 30 (.agg (stA13 a)) (.agg (stA13 b))).run Tryz.prog W= .ok (.bool (eqS a b)) W:=by
 rw[run_eql_struct,eq_st13];rfl
theorem neq_st13 (a b:St3)(W:World):(binOp .neq 30 (.agg (stA13 a)) (.agg (stA13 b))).run Tryz.prog W= .ok (.bool (!eqS a b)) W:=by
 rw[run_neq_struct,eq_st13];rfl
end
section
open Go.RowKit
open Go.Great
theorem qcE (t:Tp3)(a:TpA)(n:Int)(w:World):
  Calls Tryz.prog 113 #[.agg (tpC t a),.int .i64 n] w fun e w'=>e= .returned (.bool (edgeB t n))/\Below w.heap.size w w':=by
 obtain⟨wa,hwa,hbwa,HWA,HBWA,h0⟩:=bx1Z w 27 (tpC t a);have c0:wa.cell? ⟨w.heap.size,0,none⟩=some (.slice a.ae t.edges.length a.ce):=(h0).cell 0;unfold edgeB;clear hwa hbwa h0;unfold tpC at*;generalize t.edges.length=m at*;by_cases h1:0<=n
 ·by_cases h2:n<m
  ·rw[decide_eq_true h1,decide_eq_true h2]
   go_enter Tryz.func113,Tryz.ntmps113;go_upto_region 1 with fail;rw[HWA.out];clear HWA;go_wp2;go_ret
   exact⟨rfl,HBWA.out⟩
  ·rw[decide_eq_true h1,decide_eq_false h2]
   go_enter Tryz.func113,Tryz.ntmps113;go_upto_region 1 with fail;rw[HWA.out];clear HWA;go_wp2;go_ret
   exact⟨rfl,HBWA.out⟩
 ·rw[decide_eq_false h1,Bool.false_and]
  go_enter Tryz.func113,Tryz.ntmps113;go_upto_region 1 with fail;rw[HWA.out];clear HWA;go_wp2;go_ret
  exact⟨rfl,HBWA.out⟩
theorem rend_any (t:Tp3)(a:TpA)(x:Int×Int)(w:World):
  Calls Tryz.prog 111 #[.agg (tpC t a),.agg (endA x)] w fun e w'=>e= .returned (.bool (endB t x))/\Below w.heap.size w w':=by
 obtain⟨wa,hwa,hbwa,HWA,HBWA,h0,h1⟩:=bx2Z w 27 (tpC t a) 147 (endA x);have c0:wa.cell? ⟨w.heap.size+1,0,none⟩=some (.int .i64 x.1):=h1.cell 0;have H:=zq (qcE t a x.1 wa);have HP:=zq h0;have HC:=zH h1;unfold endB;clear hwa hbwa h0 h1;generalize edgeB t x.1=b at*;obtain⟨x1,x2⟩:=x;unfold endA at*;dsimp only at*
 cases b with
 |false=>
  rw[Bool.false_and];go_enter Tryz.func111,Tryz.ntmps111;go_upto_region 1 with fail;rw[HWA.out];clear HWA;go_wp2_with (with_reducible refine ldZ 6 HP.out ?_);refine H.out.mono ?_;rintro e w1 ⟨rfl,hb1⟩;have c1:w1.cell? ⟨w.heap.size+1,1,none⟩=some (.int .i64 x2):=(HC.out w1 hb1).cell 1;have HB1:=tB HBWA hb1;clear hb1 HC H HP HBWA c0;go_wp2;go_ret
  exact⟨rfl,HB1.out⟩
 |true=>
  rw[Bool.true_and];by_cases h0:x2=0
  ·subst h0
   go_enter Tryz.func111,Tryz.ntmps111;go_upto_region 1 with fail;rw[HWA.out];clear HWA;go_wp2_with (with_reducible refine ldZ 6 HP.out ?_);refine H.out.mono ?_;rintro e w1 ⟨rfl,hb1⟩;have c1:w1.cell? ⟨w.heap.size+1,1,none⟩=some (.int .i64 0):=(HC.out w1 hb1).cell 1;have HB1:=tB HBWA hb1;clear hb1 HC H HP HBWA c0;go_wp2;go_ret
   exact⟨by simp,HB1.out⟩
  have e0:(x2==0)=false:=by simp[h0]
  rw[e0,Bool.false_or];clear h0;by_cases h1:x2=1
  ·subst h1
   go_enter Tryz.func111,Tryz.ntmps111;go_upto_region 1 with fail;rw[HWA.out];clear HWA;go_wp2_with (with_reducible refine ldZ 6 HP.out ?_);refine H.out.mono ?_;rintro e w1 ⟨rfl,hb1⟩;have c1:w1.cell? ⟨w.heap.size+1,1,none⟩=some (.int .i64 1):=(HC.out w1 hb1).cell 1;have HB1:=tB HBWA hb1;clear hb1 HC H HP HBWA c0;go_wp2;go_ret
   exact⟨by simp,HB1.out⟩
  have e1:(x2==1)=false:=by simp[h1]
  rw[e1];clear h1;go_enter Tryz.func111,Tryz.ntmps111;go_upto_region 1 with fail;rw[HWA.out];clear HWA;go_wp2_with (with_reducible refine ldZ 6 HP.out ?_);refine H.out.mono ?_;rintro e w1 ⟨rfl,hb1⟩;have c1:w1.cell? ⟨w.heap.size+1,1,none⟩=some (.int .i64 x2):=(HC.out w1 hb1).cell 1;have HB1:=tB HBWA hb1;clear hb1 HC H HP HBWA c0;go_wp2;go_ret
  exact⟨by simp,HB1.out⟩
theorem rin_any (s:St3)(w:World):
  Calls Tryz.prog 116 #[.agg (stA13 s)] w fun e w'=>e= .returned (.agg (endA (inE s)))/\Below w.heap.size w w':=by
 obtain⟨wa,hwa,hbwa,HWA,HBWA,h0,h1⟩:=bx2Z w 30 (stA13 s) 147 #[.int .i64 0,.int .i64 0];have c0:wa.cell? ⟨w.heap.size,0,none⟩=some (.int .i64 s.edge):=h0.cell 0;have c1:wa.cell? ⟨w.heap.size,1,none⟩=some (.bool s.rev):=h0.cell 1;have HZ:=zq h1;clear hwa hbwa h0 h1;obtain⟨n,r⟩:=s;unfold stA13 at*;unfold endA inE;dsimp only at*
 cases r with
 |false=>
  have HR:=zq (qaa HZ.out #[.int .i64 n,.int .i64 0]);have HBF:=zq (qab (g:=w.heap.size+1) HBWA.out (by omega) #[.int .i64 n,.int .i64 0]);go_enter Tryz.func116,Tryz.ntmps116;go_upto_region 1 with fail;rw[HWA.out];clear HWA HBWA;go_wp2_with (with_reducible refine stZ #[.int .i64 n,.int .i64 0] HZ.out ?_);refine roZ HR.out ?_;exact⟨rfl,HBF.out⟩
 |true=>
  have HR:=zq (qaa HZ.out #[.int .i64 n,.int .i64 1]);have HBF:=zq (qab (g:=w.heap.size+1) HBWA.out (by omega) #[.int .i64 n,.int .i64 1]);go_enter Tryz.func116,Tryz.ntmps116;go_upto_region 1 with fail;rw[HWA.out];clear HWA HBWA;go_wp2_with (with_reducible refine stZ #[.int .i64 n,.int .i64 1] HZ.out ?_);refine roZ HR.out ?_;exact⟨rfl,HBF.out⟩
theorem rout_any (s:St3)(w:World):
  Calls Tryz.prog 115 #[.agg (stA13 s)] w fun e w'=>e= .returned (.agg (endA (outE s)))/\Below w.heap.size w w':=by
 obtain⟨wa,hwa,hbwa,HWA,HBWA,h0,h1⟩:=bx2Z w 30 (stA13 s) 147 #[.int .i64 0,.int .i64 0];have c0:wa.cell? ⟨w.heap.size,0,none⟩=some (.int .i64 s.edge):=h0.cell 0;have c1:wa.cell? ⟨w.heap.size,1,none⟩=some (.bool s.rev):=h0.cell 1;have HZ:=zq h1;clear hwa hbwa h0 h1;obtain⟨n,r⟩:=s;unfold stA13 at*;unfold endA outE;dsimp only at*
 cases r with
 |false=>
  have HR:=zq (qaa HZ.out #[.int .i64 n,.int .i64 1]);have HBF:=zq (qab (g:=w.heap.size+1) HBWA.out (by omega) #[.int .i64 n,.int .i64 1]);go_enter Tryz.func115,Tryz.ntmps115;go_upto_region 1 with fail;rw[HWA.out];clear HWA HBWA;go_wp2_with (with_reducible refine stZ #[.int .i64 n,.int .i64 1] HZ.out ?_);refine roZ HR.out ?_;exact⟨rfl,HBF.out⟩
 |true=>
  have HR:=zq (qaa HZ.out #[.int .i64 n,.int .i64 0]);have HBF:=zq (qab (g:=w.heap.size+1) HBWA.out (by omega) #[.int .i64 n,.int .i64 0]);go_enter Tryz.func115,Tryz.ntmps115;go_upto_region 1 with fail;rw[HWA.out];clear HWA HBWA;go_wp2_with (with_reducible refine stZ #[.int .i64 n,.int .i64 0] HZ.out ?_);refine roZ HR.out ?_;exact⟨rfl,HBF.out⟩
theorem qfH (A:Option Addr)(n c:Nat)(l:List Jt3)(a b:Int×Int)(w:World)(hj:SlO jtC 4 w A n c l)(hn:n<=1048576):
  Calls Tryz.prog 112 #[.slice A n c,.agg (endA a),.agg (endA b)] w fun e w'=>e= .returned (.bool (joinB l a b))/\Below w.heap.size w w':=by
 obtain⟨wa,hwa,hbwa,HWA,HBWA,h0,h1⟩:=bx2Z w 147 (endA a) 147 (endA b);have HJ:=zq (hj.under hbwa);have HL:=zq hj.1;have c0:wa.cell? ⟨w.heap.size,0,none⟩=some (.int .i64 a.1):=h0.cell 0;have c1:wa.cell? ⟨w.heap.size,1,none⟩=some (.int .i64 a.2):=h0.cell 1;have f0:wa.cell? ⟨w.heap.size+1,0,none⟩=some (.int .i64 b.1):=h1.cell 0;have f1:wa.cell? ⟨w.heap.size+1,1,none⟩=some (.int .i64 b.2):=h1.cell 1;clear hwa hbwa h0 h1 hj;obtain⟨q,hq⟩:=geZ (joinB l a b);have HQ:=zq hq;rw[hq];clear hq;unfold endA at HWA;unfold endA;go_enter Tryz.func112,Tryz.ntmps112;go_upto_region 1 with fail;rw[HWA.out];clear HWA;go_wp2;go_loopg [7] n (fun kk v wl=> ∃i k:Nat,i<=n/\n-i<=kk/\v= .int .i64 i/\Hid (∀m j,m<i->l[m]?=some j->joinJ a b j=false)/\wl=wa.drewN k)
 case atStart=>exact⟨0,0,by omega,by omega,rfl,zq fun m j h=>absurd h (by omega),rfl⟩
 obtain⟨i,k,hi,hik,rfl,HNO,hwr⟩:=hrel;have HWR:=zq hwr;by_cases hlt:i<n;rotate_left
 ·have hqf:q=false:=by
   rw[<-HQ.out];unfold joinB;rw[List.any_eq_false];intro j hjm;obtain⟨m,hm,rfl⟩:=List.getElem_of_mem hjm;have hl:=HL.out;rw[HNO.out m _ (by omega) (List.getElem?_eq_getElem hm)]
   decide
  have x1: ¬(i:Int)<n:=by omega
  have HBF:Hid (Below w.heap.size w wr):=zq (by rw[HWR.out];exact qac HBWA.out k);clear hwr;go_wp2;go_ret
  exact⟨by first|rfl|rw[hqf],HBF.out⟩
 obtain⟨j,hj⟩:=glZ l (i) (by rw[HL.out];omega);have HJJ:=zq hj;obtain⟨bk,off,rfl,d0,d1,d2,d3⟩:=HJ.out.joint hj;clear hj;have y0:(0:Int)<=i:=by omega
 have y1:(i:Int)<n:=by omega
 have q1:=qdp j.a a;have q2:=qdp j.b b;have q3:=qdp j.a b;have q4:=qdp j.b a;have hjj:joinJ a b j=((eqE j.a a &&eqE j.b b)||(eqE j.a b &&eqE j.b a)):=rfl;obtain⟨e1,he1⟩: ∃e,eqE j.a a=e:=⟨_,rfl⟩
 obtain⟨e2,he2⟩: ∃e,eqE j.b b=e:=⟨_,rfl⟩
 obtain⟨e3,he3⟩: ∃e,eqE j.a b=e:=⟨_,rfl⟩
 obtain⟨e4,he4⟩: ∃e,eqE j.b a=e:=⟨_,rfl⟩
 rw[he1]at q1;rw[he2]at q2;rw[he3]at q3;rw[he4]at q4;rw[he1,he2,he3,he4]at hjj;have HJB:=zq hjj;clear he1 he2 he3 he4 hjj;unfold endA at q1 q2 q3 q4;subst hwr;skip;go_upto_region 4 with fail
 cases e1 with
 |false=>
  cases e3 with
  |false=>
   go_quiet (fail);go_wp2;go_roundg (gk-1)
   case measure=>omega
   case rel=>
    refine⟨i+1,_,by omega,by omega,by go_num,zq (fun m j' hm hj'=>?_),by first|rfl|rw[World.drewN_drewN]⟩;by_cases hmi:m=i
    ·subst hmi
     rw[HJJ.out]at hj';injection hj' with hj'
     rw[<-hj',HJB.out];simp
    ·exact HNO.out m j' (by omega) hj'
  |true=>
   cases e4 with
   |false=>
    go_quiet (fail);go_wp2;go_roundg (gk-1)
    case measure=>omega
    case rel=>
     refine⟨i+1,_,by omega,by omega,by go_num,zq (fun m j' hm hj'=>?_),by first|rfl|rw[World.drewN_drewN]⟩;by_cases hmi:m=i
     ·subst hmi
      rw[HJJ.out]at hj';injection hj' with hj'
      rw[<-hj',HJB.out];simp
     ·exact HNO.out m j' (by omega) hj'
   |true=>
    go_quiet (fail);go_wp2;go_ret
    have hq:q=true:=by
     rw[<-HQ.out];unfold joinB;rw[List.any_eq_true];exact⟨j,List.mem_of_getElem? HJJ.out,by rw[HJB.out];simp⟩
    exact⟨by first|rfl|(rw[hq];rfl)|rw[hq],by first|exact qac HBWA.out _|(rw[World.drewN_drewN];exact qac HBWA.out _)⟩
 |true=>
  cases e2 with
  |false=>
   cases e3 with
   |false=>
    go_quiet (fail);go_wp2;go_roundg (gk-1)
    case measure=>omega
    case rel=>
     refine⟨i+1,_,by omega,by omega,by go_num,zq (fun m j' hm hj'=>?_),by first|rfl|rw[World.drewN_drewN]⟩;by_cases hmi:m=i
     ·subst hmi
      rw[HJJ.out]at hj';injection hj' with hj'
      rw[<-hj',HJB.out];simp
     ·exact HNO.out m j' (by omega) hj'
   |true=>
    cases e4 with
    |false=>
     go_quiet (fail);go_wp2;go_roundg (gk-1)
     case measure=>omega
     case rel=>
      refine⟨i+1,_,by omega,by omega,by go_num,zq (fun m j' hm hj'=>?_),by first|rfl|rw[World.drewN_drewN]⟩;by_cases hmi:m=i
      ·subst hmi
       rw[HJJ.out]at hj';injection hj' with hj'
       rw[<-hj',HJB.out];simp
      ·exact HNO.out m j' (by omega) hj'
    |true=>
     go_quiet (fail);go_wp2;go_ret
     have hq:q=true:=by
      rw[<-HQ.out];unfold joinB;rw[List.any_eq_true];exact⟨j,List.mem_of_getElem? HJJ.out,by rw[HJB.out];simp⟩
     exact⟨by first|rfl|(rw[hq];rfl)|rw[hq],by first|exact qac HBWA.out _|(rw[World.drewN_drewN];exact qac HBWA.out _)⟩
  |true=>
   go_quiet (fail);go_wp2;go_ret
   have hq:q=true:=by
    rw[<-HQ.out];unfold joinB;rw[List.any_eq_true];exact⟨j,List.mem_of_getElem? HJJ.out,by rw[HJB.out];simp⟩
   exact⟨by first|rfl|(rw[hq];rfl)|rw[hq],by first|exact qac HBWA.out _|(rw[World.drewN_drewN];exact qac HBWA.out _)⟩
end
section
open Go.RowKit
open Go.Great
theorem qe1 (t:Tp3)(a:TpA)(sa sb:St3)(w:World)(hj:SlO jtC 4 w a.aj t.joints.length a.cj t.joints)(hn:t.joints.length<=1048576):
  Calls Tryz.prog 53 #[.agg (tpC t a),.agg (stA13 sa),.agg (stA13 sb)] w fun e w'=>e= .returned (.bool (mayT t sa sb))/\Below w.heap.size w w':=by
 obtain⟨wa,hwa,hbwa,HWA,HBWA,h0,h1,h2⟩:=bx3Z w 27 (tpC t a) 30 (stA13 sa) 30 (stA13 sb);have HJ:=zq (fun W (hW:Below w.heap.size w W)=>hj.under hW);have H0:=zq h0;have H1:=zq h1;have H2:=zq h2;clear hwa hbwa h0 h1 h2 hj;obtain⟨q,hq⟩:=geZ (mayT t sa sb);have HQ:=zq hq;rw[hq];clear hq;go_enter Tryz.func53,Tryz.ntmps53;go_upto_region 1 with fail;rw[HWA.out];clear HWA;refine wp_region_held_drew (S:=(fun W_=>Has W_ (w.heap.size) 27 (tpC t a)/\Has W_ (w.heap.size+1) 30 (stA13 sa)/\Has W_ (w.heap.size+1+1) 30 (stA13 sb)/\Below w.heap.size w W_)) (by kernel_rfl) ?_ (fun hHeld=>?_)
 ·exact⟨H0.out.draw,H1.out.draw,H2.out.draw,qaf HBWA.out⟩
 refine tkZ 0 7 (h:=?_);simp only[lyZ];refine tqZ 1 8 (fun w_ hSw=>(show w_.cell? ⟨w.heap.size,1,none⟩=some (.slice a.aj t.joints.length a.cj:Value)from by have h_:=hSw.1.cell 1;exact h_)) (h:=?_);simp only[lyZ];refine tlZ 2 9 (w.heap.size+1) (stA13 sa) (fun _ ⟨_,h_,_,_⟩=>h_) (h:=?_);simp only[lyZ];refine tlZ 4 11 (w.heap.size+1+1) (stA13 sb) (fun _ ⟨_,_,h_,_⟩=>h_) (h:=?_);simp only[lyZ];refine rdZ [3] ?_;refine acZ (some 10) (fun K hK=>?_) ?_
 ·go_simp
  obtain⟨s0,s1,s2,s3⟩:=hHeld;refine(rout_any sa _).mono ?_;rintro e_ vs ⟨rfl,hbs⟩;go_wp2_with fail;refine hK.out _ _ ?_ (fun hHeld=>?_)
  ·exact⟨s0.u hbs,s1.u hbs,s2.u hbs,bu s3 hbs⟩
  clear hK K s0 s1 s2 s3
  try simp only[lyZ]
  refine rdZ [5] ?_;refine acZ (some 12) (fun K hK=>?_) ?_
  ·go_simp
   obtain⟨s0,s1,s2,s3⟩:=hHeld;refine(rin_any sb _).mono ?_;rintro e_ vs ⟨rfl,hbs⟩;go_wp2_with fail;refine hK.out _ _ ?_ (fun hHeld=>?_)
   ·exact⟨s0.u hbs,s1.u hbs,s2.u hbs,bu s3 hbs⟩
   clear hK K s0 s1 s2 s3
   try simp only[lyZ]
   refine rdZ [6] ?_;refine acZ (some 13) (fun K hK=>?_) ?_
   ·go_simp
    obtain⟨s0,s1,s2,s3⟩:=hHeld;refine(qfH _ _ _ _ _ _ _ (HJ.out _ s3) hn).mono ?_;rintro e_ vs ⟨rfl,hbs⟩;go_wp2_with fail;refine hK.out _ _ ?_ (fun hHeld=>?_)
    ·exact⟨s0.u hbs,s1.u hbs,s2.u hbs,bu s3 hbs⟩
    clear hK K s0 s1 s2 s3
    try simp only[lyZ]
    refine tkZ 7 6 (h:=?_);simp only[lyZ];refine dnZ ?_;go_wp2_with fail;go_ret
    exact⟨by first|exact congrArg (fun b_=>Ending.returned (.bool b_)) HQ.out|(rw[<-HQ.out];rfl),hHeld.2.2.2⟩
   exact AllReadyH.nil
  exact AllReadyH.nil
 exact AllReadyH.nil
theorem qfI (t:Tp3)(a:TpA)(path:List St3)(A:Option Addr)(n c:Nat)(w:World)(ht:TopR w t a)(hp:SlO stC 2 w A n c path)(hn:n<=1048576)(hj:t.joints.length<=100)(hok:qav t=true):
  Calls Tryz.prog 138 #[.agg (tpC t a),.slice A n c] w fun e w'=>e= .returned (.tuple #[.int .i64 (lenN t path),.int .i64 (lenE t path)])/\Below w.heap.size w w':=by
 obtain⟨wa,hwa,hbwa,HWA,HBWA,h0⟩:=bx1Z w 27 (tpC t a);have H0:=zH h0;have HT:=zq (fun W (hW:Below w.heap.size w W)=>ht.under hW);have HP:=zq (fun W (hW:Below w.heap.size w W)=>hp.under hW);have HBA:=zq (fun W (hW:Below wa.heap.size wa W)=>hbwa.trans (hW.mono hbwa.size));have HL:=zq hp.1;have HOK:=zq hok;obtain⟨rN,hrN⟩: ∃r,lenN t path=r:=⟨_,rfl⟩
 obtain⟨rE,hrE⟩: ∃r,lenE t path=r:=⟨_,rfl⟩
 have HRN:=zq hrN;have HRE:=zq hrE;rw[hrN,hrE];clear hwa hbwa h0 ht hp hok hrN hrE;by_cases hz:n=0
 ·have x1:(n:Int)=0:=by omega
  go_enter Tryz.func138,Tryz.ntmps138;skip;go_wp2;go_ret2
  have hN:rN=0:=by rw[<-HRN.out];unfold lenN;rw[if_neg (by unfold lenE;rw[if_pos (by have:=HL.out;omega)];decide)]
  have hE:rE=1:=by rw[<-HRE.out];unfold lenE;rw[if_pos (by have:=HL.out;omega)]
  subst hN hE;exact⟨rfl,by rw[HWA.out];exact HBWA.out⟩
 by_cases hf:40<n
 ·have x1: ¬(n:Int)=0:=by omega
  have x2:(40:Int)<n:=by omega
  go_enter Tryz.func138,Tryz.ntmps138;go_wp2;go_ret2
  have hN:rN=0:=by rw[<-HRN.out];unfold lenN;rw[if_neg (by unfold lenE;rw[if_pos (by have:=HL.out;omega)];decide)]
  have hE:rE=1:=by rw[<-HRE.out];unfold lenE;rw[if_pos (by have:=HL.out;omega)]
  subst hN hE;exact⟨rfl,by rw[HWA.out];exact HBWA.out⟩
 have x1: ¬(n:Int)=0:=by omega
 have x2: ¬(40:Int)<n:=by omega
 go_enter Tryz.func138,Tryz.ntmps138;go_upto_region 3 with fail;rw[HWA.out];clear HWA;have HNZ:=zq (show n≠0/\n<=40 from⟨hz,by omega⟩);have hz2:((n:Int)==0)=false:=by simp[hz]
 simp only[hz2];clear hz2;clear x1 x2 hz hf;go_wp2;go_loopg [6,7] n (fun kk v6 v7 wl=> ∃i:Nat,i<=n/\n-i<=kk/\v7= .int .i64 i/\v6= .int .i64 (sumT t (path.take i))/\Hid (∀s∈path.take i,edgeB t s.edge=true)/\Below wa.heap.size wa wl)
 case atStart=>exact⟨0,by omega,by omega,rfl,by simp[sumT],zq (by simp),Below.refl _ _⟩
 obtain⟨i,hi,hik,rfl,rfl,HED,hwr⟩:=hrel;have HWR:=zq hwr;by_cases hlt:i<n;rotate_left
 ·obtain rfl:i=n:=by omega
  have x1: ¬(i:Int)<i:=by omega
  have hti:path.take i=path:=List.take_of_length_le (by have:=HL.out;omega);have HALL:Hid (∀s∈path,edgeB t s.edge=true):=zq (by have h_:=HED.out;rw[hti]at h_;exact h_);rw[hti];clear hti HED hi hik hwr;go_upto_region 11 with fail;clear x1;go_wp2;go_loopg [9] i (fun kk v wl=> ∃m:Nat,1<=m/\m<=i/\i-m<=kk/\v= .int .i64 m/\Hid (∀k a b,k+1<m->path[k]?=some a->path[k+1]?=some b->mayT t a b=true)/\Below wa.heap.size wa wl)
  case atStart=>exact⟨1,by omega,by have:=HNZ.out;omega,by omega,rfl,zq (fun k a b h=>absurd h (by omega)),HWR.out⟩
  obtain⟨m,hm1,hm,hmk,rfl,HMA,hwm⟩:=hrel;have HWM:=zq hwm;by_cases hml:m<i;rotate_left
  ·obtain rfl:m=i:=by omega
   have x1: ¬(m:Int)<m:=by omega
   clear hm hmk hwm;go_wp2;go_ret2
   have h0_:lenE t path=0:=(by unfold lenE;rw[if_neg (by have h1_:=HL.out;have h2_:=HNZ.out;omega),if_pos (List.all_eq_true.2 HALL.out),if_pos (way_at.2 fun k a b ha hb=>HMA.out k a b (by have h1_:=(List.getElem?_eq_some_iff.1 hb).1;have h2_:=HL.out;omega) ha hb)])
   have hN:rN=sumT t path:=by rw[<-HRN.out];unfold lenN;rw[if_pos h0_]
   have hE:rE=0:=by rw[<-HRE.out];exact h0_
   subst hN hE;exact⟨rfl,HBA.out _ HWM.out⟩
  obtain⟨x,hx⟩:=glZ path (m-1) (by have:=HL.out;omega);obtain⟨y,hy⟩:=glZ path (m) (by have:=HL.out;omega);have HX:=zq hx;have HY:=zq hy;obtain⟨bk,off,rfl,-,-⟩:=(HP.out w (Below.refl _ _)).step hx;have HCX:=zq (fun W (hW:Below w.heap.size w W)=>(show W.cell? ⟨bk,off+(m-1)*2,none⟩=some (.int .i64 x.edge)/\W.cell? ⟨bk,off+(m-1)*2+1,none⟩=some (.bool x.rev)from by obtain⟨b_,o_,e_,h1_,h2_⟩:=(HP.out W hW).step hx;injection e_ with e_;injection e_ with e1_ e2_ _;subst e1_ e2_;exact⟨h1_,h2_⟩));have HCY:=zq (fun W (hW:Below w.heap.size w W)=>(show W.cell? ⟨bk,off+m*2,none⟩=some (.int .i64 y.edge)/\W.cell? ⟨bk,off+m*2+1,none⟩=some (.bool y.rev)from by obtain⟨b_,o_,e_,h1_,h2_⟩:=(HP.out W hW).step hy;injection e_ with e_;injection e_ with e1_ e2_ _;subst e1_ e2_;exact⟨h1_,h2_⟩));obtain⟨bq,hbq⟩: ∃b,mayT t x y=b:=⟨_,rfl⟩
  have HBQ:=zq hbq;have hw1:IntKind.i64.wrap ((m:Int)-1)=(m:Int)-1:=by have:=HNZ.out;rw[IntKind.wrap_i64];omega
  have hw2:((m:Int)-1).toNat=m-1:=by omega
  have y0:(0:Int)<=(m:Int)-1:=by omega
  have y1:(m:Int)-1<i:=by omega
  have y2:(0:Int)<=(m:Int):=by omega
  have y4:(1:Int)<=(m:Int):=by omega
  have y3:(m:Int)<i:=by omega
  clear hx hy hwm hbq;go_upto_region 14 with fail;refine wp_region_held_drew (S:=(fun W_=>Has W_ (w.heap.size) 27 (tpC t a)/\Below wr.heap.size wr W_)) (by kernel_rfl) ?_ (fun hHeld=>?_)
  ·exact⟨(H0.out _ HWM.out).draw,qaf (Below.refl _ _)⟩
  refine tlZ 0 51 w.heap.size (tpC t a) (fun _ ⟨h_,_⟩=>h_) (h:=?_);simp only[lyZ];refine tkZ 1 52 (h:=?_);simp only[lyZ];refine tkZ 2 53 (h:=?_);simp only[lyZ];refine tkZ 3 54 (h:=?_);simp only[lyZ];refine tkZ 4 55 (h:=?_);simp only[lyZ];refine tqZ 5 56 (fun w_ hSw=>HCX.out w_ (HBA.out w_ (HWM.out.trans (hSw.2.mono HWM.out.size)))) (h:=?_);simp only[lyZ];refine tkZ 6 57 (h:=?_);simp only[lyZ];refine tkZ 7 58 (h:=?_);simp only[lyZ];refine tkZ 8 59 (h:=?_);simp only[lyZ];refine tqZ 9 60 (fun w_ hSw=>HCY.out w_ (HBA.out w_ (HWM.out.trans (hSw.2.mono HWM.out.size)))) (h:=?_);simp only[lyZ];refine rdZ [10] ?_;refine acZ (some 61) (fun K hK=>?_) ?_
  ·go_simp
   obtain⟨s0,s1⟩:=hHeld;have hlo_:=HBA.out _ (bu HWM.out s1);refine(qe1 t a x y _ (HT.out _ hlo_).j (by omega)).mono ?_;rw[HBQ.out];rintro e_ vs ⟨rfl,hbs⟩;go_wp2_with fail;refine hK.out _ _ ?_ (fun hHeld=>?_)
   ·exact⟨s0.u hbs,bu s1 hbs⟩
   clear hK K s0 s1
   try simp only[lyZ]
   refine tkZ 11 10 (h:=?_);simp only[lyZ];refine dnZ ?_;clear hw1 hw2 y0 y1 y2 y3 y4
   cases bq with
   |false=>
    go_wp2;go_ret2
    have h1_:lenE t path=141:=by unfold lenE;rw[if_neg (by have h1_:=HL.out;have h2_:=HNZ.out;omega),if_pos (List.all_eq_true.2 HALL.out),if_neg (fun h=>by have h_:=way_at.1 h (m-1) x y HX.out (by rw[show m-1+1=m by omega];exact HY.out);rw[HBQ.out]at h_;cases h_)]
    have hN:rN=0:=by rw[<-HRN.out];unfold lenN;rw[h1_];rfl
    have hE:rE=141:=by rw[<-HRE.out];exact h1_
    subst hN hE;exact⟨rfl,HBA.out _ (HWM.out.trans (hHeld.2.mono HWM.out.size))⟩
   |true=>
    go_wp2;go_roundg (gk-1)
    case measure=>omega
    case rel=>
     refine⟨m+1,by omega,by omega,by omega,by go_num,zq (fun k a' b' hk ha hb=>?_),HWM.out.trans (hHeld.2.mono HWM.out.size)⟩;by_cases hkm:k+1=m
     ·have e_:k=m-1:=by omega
      rw[e_,HX.out]at ha;rw[hkm,HY.out]at hb;injection ha with ha
      injection hb with hb
      rw[<-ha,<-hb];exact HBQ.out
     ·exact HMA.out k a' b' (by omega) ha hb
  exact AllReadyH.nil
 obtain⟨x,hx⟩:=glZ path (i) (by have:=HL.out;omega);have HX:=zq hx;obtain⟨bk,off,rfl,-,-⟩:=(HP.out w (Below.refl _ _)).step hx;have HCX:=zq (fun W (hW:Below w.heap.size w W)=>(show W.cell? ⟨bk,off+i*2,none⟩=some (.int .i64 x.edge)from by obtain⟨b_,o_,e_,h1_,h2_⟩:=(HP.out W hW).step hx;injection e_ with e_;injection e_ with e1_ e2_ _;subst e1_ e2_;exact h1_));obtain⟨bq,hbq⟩: ∃b,edgeB t x.edge=b:=⟨_,rfl⟩
 have HBQ:=zq hbq;have y0:(0:Int)<=(i:Int):=by omega
 have y1:(i:Int)<n:=by omega
 clear hx hbq hwr;obtain⟨sv,hsv⟩: ∃s,sumT t (path.take i)=s:=⟨_,rfl⟩
 have HSV:=zq hsv;simp only[hsv];clear hsv;go_upto_region 7 with fail;refine wp_region_held_drew (S:=(fun W_=>Has W_ (w.heap.size) 27 (tpC t a)/\Below wr.heap.size wr W_)) (by kernel_rfl) ?_ (fun hHeld=>?_)
 ·exact⟨(H0.out _ HWR.out).draw,qaf (Below.refl _ _)⟩
 refine tlZ 0 25 w.heap.size (tpC t a) (fun _ ⟨h_,_⟩=>h_) (h:=?_);simp only[lyZ];refine tkZ 1 26 (h:=?_);simp only[lyZ];refine tkZ 2 27 (h:=?_);simp only[lyZ];refine tkZ 3 28 (h:=?_);simp only[lyZ];refine tkZ 4 29 (h:=?_);simp only[lyZ];refine tqZ 5 30 (fun w_ hSw=>HCX.out w_ (HBA.out w_ (HWR.out.trans (hSw.2.mono HWR.out.size)))) (h:=?_);simp only[lyZ];refine rdZ [6] ?_;refine acZ (some 31) (fun K hK=>?_) ?_
 ·go_simp
  obtain⟨s0,s1⟩:=hHeld;refine(qcE t a x.edge _).mono ?_;rw[HBQ.out];rintro e_ vs ⟨rfl,hbs⟩;go_wp2_with fail;refine hK.out _ _ ?_ (fun hHeld=>?_)
  ·exact⟨s0.u hbs,bu s1 hbs⟩
  clear hK K s0 s1
  try simp only[lyZ]
  refine tkZ 7 8 (h:=?_);simp only[lyZ];refine dnZ ?_;have HBE:=zq (HWR.out.trans (hHeld.2.mono HWR.out.size));have HH0:=zq hHeld.1;clear hHeld
  cases bq with
  |false=>
   go_wp2;go_ret2
   have h1_:lenE t path=1:=by unfold lenE;rw[if_neg (by have h1_:=HL.out;have h2_:=HNZ.out;omega),if_neg (fun h=>by have h_:=List.all_eq_true.1 h x (List.mem_of_getElem? HX.out);rw[HBQ.out]at h_;cases h_)]
   have hN:rN=0:=by rw[<-HRN.out];unfold lenN;rw[h1_];rfl
   have hE:rE=1:=by rw[<-HRE.out];exact h1_
   subst hN hE;exact⟨rfl,HBA.out _ HBE.out⟩
  |true=>
   have hed:0<=x.edge/\x.edge<t.edges.length:=by have h_:=HBQ.out;unfold edgeB at h_;simpa using h_
   obtain⟨e,hee⟩: ∃e:Nat,x.edge=e:=⟨x.edge.toNat,by omega⟩
   have hel:e<t.edges.length:=by omega
   have cx:=HCX.out _ (HBA.out _ HBE.out);rw[hee]at cx;obtain⟨be,oe,hae,ce⟩:=(HT.out _ (HBA.out _ HBE.out)).e.edge hel;have c0:=HH0.out.cell 0;have HLA:=zq (show lenAt t x=t.edges.getD e 0 from by unfold lenAt;rw[hee];rfl);have HLB:=zq (qaT HOK.out HBQ.out);obtain⟨q,hq⟩:=geZ (t.edges.getD e 0);rw[hq]at HLA ce;have HSB:=zq (qck HOK.out HED.out);have hl0:(path.take i).length<=40:=by have:=HNZ.out;rw[List.length_take];omega
   have hs:0<=sv/\sv<=40000000:=by have h_:=HSB.out;rw[HSV.out]at h_;omega
   have hq2:1<=q/\q<=1000000:=by have h_:=HLB.out;rw[HLA.out]at h_;exact h_
   have hwr1:IntKind.i64.wrap (sv+q)=sv+q:=by rw[IntKind.wrap_i64];omega
   have c0':vs.cell? ⟨w.heap.size,0,none⟩=some (.slice (some ⟨be,oe,none⟩) t.edges.length a.ce):=by first|exact c0.trans (by rw[<-hae];rfl)|(rw[<-hae];exact c0)
   have z0:(0:Int)<=e:=by omega
   have z1:(e:Int)<t.edges.length:=by omega
   obtain⟨me,hme⟩: ∃m,t.edges.length=m:=⟨_,rfl⟩
   have HME:=zq hme;rw[hme]at c0' z1;clear c0 hed hel hq HLB HSB hs hq2 hme hl0;go_upto_region 10 with fail;go_quiet (fail);go_wp2;go_roundg (gk-1)
   case measure=>omega
   case rel=>
    refine⟨i+1,by omega,by omega,by go_num,?_,zq (fun s hs=>?_),qac HBE.out _⟩
    ·rw[List.take_add_one,HX.out,qew,HSV.out]
     show _=Value.int .i64 (sv+(lenAt t x+0))
     rw[HLA.out,Int.add_zero]
    ·rw[List.take_add_one,HX.out]at hs
     rcases List.mem_append.1 hs with h|h
     ·exact HED.out s h
     ·rw[List.mem_singleton.1 h];exact HBQ.out
 exact AllReadyH.nil
end
section
open Go.RowKit
open Go.Great
theorem qff {α:Type}{p:α->Bool}{l:List α}{i:Nat}{x:α}(hx:l[i]?=some x)(hp:p x=true)(hno: ∀m y,m<i->l[m]?=some y->p y=false):l.find? p=some x:=by
 induction l generalizing i with
 |nil=>simp at hx
 |cons a r ih=>
  cases i with
  |zero=>
   simp at hx;subst hx;exact List.find?_cons_of_pos hp
  |succ k=>
   rw[List.find?_cons_of_neg (by rw[hno 0 a (by omega) rfl];decide)];exact ih (i:=k) (by simpa using hx) fun m y hm hy=>hno (m+1) y (by omega) (by simpa using hy)
theorem qdD {α:Type}{p:α->Bool}{l:List α}(hno: ∀m y,m<l.length->l[m]?=some y->p y=false):l.find? p=none:=by
 rw[List.find?_eq_none];intro y hy;obtain⟨m,hm,rfl⟩:=List.getElem_of_mem hy;rw[hno m _ hm (List.getElem?_eq_getElem hm)]
 decide
instance : DecidableEq St3 := fun a b => decidable_of_iff (eqS a b = true) (qaX a b)
theorem RtsR.at2 {w w':World}{A:Option Addr}{n c:Nat}{rs:List Rt3}(h:RtsR w A n c rs)(hb:Below w.heap.size w w'){j:Nat}{r:Rt3}(hr:rs[j]?=some r):
  ∃b off PA pc,A=some ⟨b,off,none⟩/\SlO stC 2 w PA r.path.length pc r.path/\w'.cell? ⟨b,off+j*4,none⟩=some (.int .i64 r.id)/\w'.cell? ⟨b,off+j*4+1,none⟩=some (.slice PA r.path.length pc)/\w'.cell? ⟨b,off+j*4+2,none⟩=some (.int .i64 r.gap)/\w'.cell? ⟨b,off+j*4+3,none⟩=some (.int .i64 r.timer):=by
 obtain⟨l,rfl,h2,h3⟩:=h;rw[List.getElem?_map]at hr;obtain⟨p,hp,rfl⟩:=Option.map_eq_some_iff.1 hr;obtain⟨b,off,e,hc⟩:=(h2.under hb).at_ (fun _=>rfl) (by decide) hp;obtain⟨⟨PA,pc,ev,hs⟩,_⟩:=h3 p (List.mem_of_getElem? hp);have h1:=hc 1 p.2 rfl;rw[ev]at h1;exact⟨b,off,PA,pc,e,hs,hc 0 _ rfl,h1,hc 2 _ rfl,hc 3 _ rfl⟩
def rtA (r:Rt3)(v:Value):Array Value:=#[.int .i64 r.id,v,.int .i64 r.gap,.int .i64 r.timer]
def balR (t:Tp3)(id:Int):Bl3:=(balF t id).getD ⟨0,0,0⟩
def qbb (t:Tp3)(id:Int):Rt3:=(qaS t id).getD ⟨0,[],0,0⟩
theorem rbal_any (t:Tp3)(a:TpA)(id:Int)(w:World)(ht:TopR w t a)(hn:t.bals.length<=1048576):
  Calls Tryz.prog 119 #[.agg (tpC t a),.int .i64 id] w fun e w'=>e= .returned (.tuple #[.agg (blA (balR t id)),.bool (balF t id).isSome])/\Below w.heap.size w w':=by
 obtain⟨wa,hwa,hbwa,HWA,HBWA,h0,h1⟩:=bx2Z w 27 (tpC t a) 151 #[.int .i64 0,.int .i64 0,.int .i64 0];have HS:=zq (ht.under hbwa).b;have HZ:=zq h1;have c2:wa.cell? ⟨w.heap.size,2,none⟩=some (.slice a.ab t.bals.length a.cb):=h0.cell 2;clear hwa hbwa h0 h1 ht;obtain⟨n,hnn⟩:=geZ (t.bals.length);have HN:=zq hnn;rw[hnn]at hn c2;clear hnn;go_enter Tryz.func119,Tryz.ntmps119;go_upto_region 1 with fail;rw[HWA.out];clear HWA;go_wp2;go_loopg [6] n (fun kk v wl=> ∃i:Nat,i<=n/\n-i<=kk/\v= .int .i64 i/\Hid (∀m y,m<i->t.bals[m]?=some y->(y.id==id)=false)/\wl=wa)
 case atStart=>exact⟨0,by omega,by omega,rfl,zq fun m y h=>absurd h (by omega),rfl⟩
 obtain⟨i,hi,hik,rfl,HNO,rfl⟩:=hrel;by_cases hlt:i<n;rotate_left
 ·have x1: ¬(i:Int)<n:=by omega
  have HF:=zq (show balF t id=none from qdD fun m y hm hy=>HNO.out m y (by have:=HN.out;omega) hy);have HR:=zq (qaa HZ.out #[.int .i64 0,.int .i64 0,.int .i64 0]);have HBF:=zq (qab (g:=w.heap.size+1) HBWA.out (by omega) #[.int .i64 0,.int .i64 0,.int .i64 0]);go_wp2_with (with_reducible refine stZ #[.int .i64 0,.int .i64 0,.int .i64 0] HZ.out ?_);refine rtZ HR.out ?_;have e1_:balR t id=⟨0,0,0⟩:=by unfold balR;rw[HF.out];rfl
  have e2_:(balF t id).isSome=false:=by rw[HF.out];rfl
  rw[e1_,e2_];exact⟨rfl,HBF.out⟩
 obtain⟨x,hx⟩: ∃x,t.bals[i]?=some x:=⟨_,List.getElem?_eq_getElem (by rw[HN.out];omega)⟩
 have HX:=zq hx;obtain⟨bk,off,hab,d0,d1,d2⟩:=HS.out.bal hx;rw[hab]at c2;have y0:(0:Int)<=i:=by omega
 have y1:(i:Int)<n:=by omega
 obtain⟨u,hu⟩:=geZ (x.id);have HU:=zq hu;rw[hu]at d0;clear hx hu;by_cases hui:u=id
 ·subst hui
  have HF:=zq (show balF t u=some x from qff HX.out (by show(x.id==u)=true;rw[HU.out];simp) HNO.out);have HR:=zq (qaa HZ.out #[.int .i64 u,.int .i64 x.edge,.int .i64 x.at_]);have HBF:=zq (qab (g:=w.heap.size+1) HBWA.out (by omega) #[.int .i64 u,.int .i64 x.edge,.int .i64 x.at_]);go_wp2_with (with_reducible refine stZ #[.int .i64 u,.int .i64 x.edge,.int .i64 x.at_] HZ.out ?_);refine rtZ HR.out ?_;have e1_:balR t u=x:=by unfold balR;rw[HF.out];rfl
  have e2_:(balF t u).isSome=true:=by rw[HF.out];rfl
  rw[e1_,e2_];unfold blA;rw[HU.out];exact⟨rfl,HBF.out⟩
 have e1:(u==id)=false:=by simp[hui]
 go_wp2;go_roundg (gk-1)
 case measure=>omega
 case rel=>
  refine⟨i+1,by omega,by omega,by go_num,zq (fun m y hm hy=>?_),rfl⟩;by_cases hmi:m=i
  ·subst hmi
   rw[HX.out]at hy;injection hy with hy
   rw[<-hy,HU.out];exact e1
  ·exact HNO.out m y (by omega) hy
theorem rroute_any (t:Tp3)(a:TpA)(id:Int)(w:World)(ht:TopR w t a)(hn:t.routes.length<=1048576):
  Calls Tryz.prog 51 #[.agg (tpC t a),.int .i64 id] w fun e w'=> ∃v,PathV w' v (qbb t id).path/\e= .returned (.tuple #[.agg (rtA (qbb t id) v),.bool (qaS t id).isSome])/\Below w.heap.size w w':=by
 obtain⟨wa,hwa,hbwa,HWA,HBWA,h0,h1⟩:=bx2Z w 27 (tpC t a) 75 #[.int .i64 0,.slice none 0 0,.int .i64 0,.int .i64 0];have HS:=zq ht.r;have HZ:=zq h1;have c2:wa.cell? ⟨w.heap.size,3,none⟩=some (.slice a.ar t.routes.length a.cr):=h0.cell 3;clear hwa hbwa h0 h1 ht;obtain⟨n,hnn⟩:=geZ (t.routes.length);have HN:=zq hnn;rw[hnn]at hn c2;clear hnn;go_enter Tryz.func51,Tryz.ntmps51;go_upto_region 1 with fail;rw[HWA.out];clear HWA;go_wp2;go_loopg [6] n (fun kk v wl=> ∃i:Nat,i<=n/\n-i<=kk/\v= .int .i64 i/\Hid (∀m y,m<i->t.routes[m]?=some y->(y.id==id)=false)/\wl=wa)
 case atStart=>exact⟨0,by omega,by omega,rfl,zq fun m y h=>absurd h (by omega),rfl⟩
 obtain⟨i,hi,hik,rfl,HNO,rfl⟩:=hrel;by_cases hlt:i<n;rotate_left
 ·have x1: ¬(i:Int)<n:=by omega
  have HF:=zq (show qaS t id=none from qdD fun m y hm hy=>HNO.out m y (by have:=HN.out;omega) hy);have HR:=zq (qaa HZ.out #[.int .i64 0,.slice none 0 0,.int .i64 0,.int .i64 0]);have HBF:=zq (qab (g:=w.heap.size+1) HBWA.out (by omega) #[.int .i64 0,.slice none 0 0,.int .i64 0,.int .i64 0]);go_wp2_with (with_reducible refine stZ #[.int .i64 0,.slice none 0 0,.int .i64 0,.int .i64 0] HZ.out ?_);refine rtZ HR.out ?_;have e1_:qbb t id=⟨0,[],0,0⟩:=by unfold qbb;rw[HF.out];rfl
  have e2_:(qaS t id).isSome=false:=by rw[HF.out];rfl
  rw[e1_,e2_];exact⟨.slice none 0 0,⟨none,0,rfl,SlO.nil _ _ _⟩,rfl,HBF.out⟩
 obtain⟨x,hx⟩: ∃x,t.routes[i]?=some x:=⟨_,List.getElem?_eq_getElem (by rw[HN.out];omega)⟩
 have HX:=zq hx;obtain⟨bk,off,PA,pc,hab,hpa,d0,d1,d2,d3⟩:=HS.out.at2 HBWA.out hx;have HPA:=zq hpa;clear hpa;rw[hab]at c2;have y0:(0:Int)<=i:=by omega
 have y1:(i:Int)<n:=by omega
 obtain⟨u,hu⟩:=geZ (x.id);have HU:=zq hu;rw[hu]at d0;clear hx hu;by_cases hui:u=id
 ·subst hui
  have HF:=zq (show qaS t u=some x from qff HX.out (by show(x.id==u)=true;rw[HU.out];simp) HNO.out);have HR:=zq (qaa HZ.out #[.int .i64 u,.slice PA x.path.length pc,.int .i64 x.gap,.int .i64 x.timer]);have HBF:=zq (qab (g:=w.heap.size+1) HBWA.out (by omega) #[.int .i64 u,.slice PA x.path.length pc,.int .i64 x.gap,.int .i64 x.timer]);go_wp2_with (with_reducible refine stZ #[.int .i64 u,.slice PA x.path.length pc,.int .i64 x.gap,.int .i64 x.timer] HZ.out ?_);refine rtZ HR.out ?_;have e1_:qbb t u=x:=by unfold qbb;rw[HF.out];rfl
  have e2_:(qaS t u).isSome=true:=by rw[HF.out];rfl
  rw[e1_,e2_];unfold rtA;rw[HU.out];exact⟨.slice PA x.path.length pc,⟨PA,pc,rfl,HPA.out.under HBF.out⟩,rfl,HBF.out⟩
 have e1:(u==id)=false:=by simp[hui]
 go_wp2;go_roundg (gk-1)
 case measure=>omega
 case rel=>
  refine⟨i+1,by omega,by omega,by go_num,zq (fun m y hm hy=>?_),rfl⟩;by_cases hmi:m=i
  ·subst hmi
   rw[HX.out]at hy;injection hy with hy
   rw[<-hy,HU.out];exact e1
  ·exact HNO.out m y (by omega) hy
theorem rsteps_any (A B:Option Addr)(n c m d:Nat)(la lb:List St3)(w:World)(ha:SlO stC 2 w A n c la)(hb:SlO stC 2 w B m d lb)(hn:n<=1048576):
  Calls Tryz.prog 30 #[.slice A n c,.slice B m d] w fun e w'=>e= .returned (.bool (decide (la=lb)))/\Below w.heap.size w w':=by
 have HA:=zq ha;have HB:=zq hb;clear ha hb;obtain⟨q,hq⟩:=geZ (decide (la=lb));have HQ:=zq hq;rw[hq];clear hq;by_cases hnm:n=m;rotate_left
 ·have hqf:q=false:=by
   rw[<-HQ.out];refine decide_eq_false fun h=>hnm ?_;rw[<-HA.out.1,<-HB.out.1,h]
  have e1:((n:Int)==(m:Int))=false:=by simp;omega
  have e2:((n:Int) !=(m:Int))=true:=by simp;omega
  go_enter Tryz.func30,Tryz.ntmps30;go_wp2;go_ret
  exact⟨by first|rfl|(rw[hqf];rfl)|rw[hqf],Below.refl _ _⟩
 subst hnm;have HBA:=zq (Below.refl w.heap.size w);go_enter Tryz.func30,Tryz.ntmps30;go_wp2;go_loopg [5] n (fun kk v wl=> ∃i k:Nat,i<=n/\n-i<=kk/\v= .int .i64 i/\Hid (∀j,j<i->la[j]?=lb[j]?)/\wl=w.drewN k)
 case atStart=>exact⟨0,0,by omega,by omega,rfl,zq fun j h=>absurd h (by omega),rfl⟩
 obtain⟨i,k,hi,hik,rfl,HEQ,rfl⟩:=hrel;by_cases hlt:i<n;rotate_left
 ·have hqf:q=true:=by
   rw[<-HQ.out];refine decide_eq_true (List.ext_getElem? fun j=>?_);by_cases hj:j<i
   ·exact HEQ.out j hj
   ·rw[List.getElem?_eq_none (by rw[HA.out.1];omega),List.getElem?_eq_none (by rw[HB.out.1];omega)]
  have x1: ¬(i:Int)<n:=by omega
  go_wp2;go_ret
  exact⟨by first|rfl|(rw[hqf];rfl)|rw[hqf],qac (Below.refl _ _) k⟩
 obtain⟨x,hx⟩:=glZ la (i) (by rw[HA.out.1];omega);obtain⟨y,hy⟩:=glZ lb (i) (by rw[HB.out.1];omega);have HX:=zq hx;have HY:=zq hy;obtain⟨b1,o1,rfl,d0,d1⟩:=HA.out.step hx;obtain⟨b2,o2,rfl,f0,f1⟩:=HB.out.step hy;clear hx hy;have y0:(0:Int)<=i:=by omega
 have y1:(i:Int)<n:=by omega
 have q1:=eq_st13 x y;obtain⟨e1,he1⟩: ∃e,eqS x y=e:=⟨_,rfl⟩
 have HE:=zq he1;rw[he1]at q1;clear he1;unfold stA13 at q1;go_upto_region 6 with fail
 cases e1 with
 |false=>
  go_quiet (fail);go_wp2;go_ret
  have hqf:q=false:=by
   rw[<-HQ.out];refine decide_eq_false fun h=>?_;have h_:=HX.out;rw[h,HY.out]at h_;injection h_ with h_
   have he:=HE.out;rw[h_,(qaX x x).2 rfl]at he
   cases he
  exact⟨by first|rfl|(rw[hqf];rfl)|rw[hqf],by first|exact qac (Below.refl _ _) _|(rw[World.drewN_drewN];exact qac (Below.refl _ _) _)⟩
 |true=>
  go_quiet (fail);go_wp2;go_roundg (gk-1)
  case measure=>omega
  case rel=>
   refine⟨i+1,_,by omega,by omega,by go_num,zq (fun j hj=>?_),by first|rfl|rw[World.drewN_drewN]⟩;by_cases hji:j=i
   ·rw[hji,HX.out,HY.out,(qaX x y).1 HE.out]
   ·exact HEQ.out j (by omega)
theorem rlight_any13 (t:Tp3)(a:TpA)(w:World)(ht:TopR w t a):
  Calls Tryz.prog 10 #[.agg (tpC t a)] w fun e w'=>e= .returned (.bool (qaH t))/\Below w.heap.size w w':=by
 obtain⟨wa,hwa,hbwa,HWA,HBWA,h0⟩:=bx1Z w 27 (tpC t a);have HS:=zq (ht.under hbwa).r;have c0:wa.cell? ⟨w.heap.size,0,none⟩=some (.slice a.ae t.edges.length a.ce):=h0.cell 0;have c1:wa.cell? ⟨w.heap.size,1,none⟩=some (.slice a.aj t.joints.length a.cj):=h0.cell 1;have c2:wa.cell? ⟨w.heap.size,2,none⟩=some (.slice a.ab t.bals.length a.cb):=h0.cell 2;have c3:wa.cell? ⟨w.heap.size,3,none⟩=some (.slice a.ar t.routes.length a.cr):=h0.cell 3;clear hwa hbwa h0 ht;obtain⟨q,hq⟩:=geZ (qaH t);have HQ:=zq hq;rw[hq];unfold qaH at hq;obtain⟨n0,hn0⟩: ∃n,t.edges.length=n:=⟨_,rfl⟩
 rw[hn0]at c0 hq;obtain⟨n1,hn1⟩: ∃n,t.joints.length=n:=⟨_,rfl⟩
 rw[hn1]at c1 hq;obtain⟨n2,hn2⟩: ∃n,t.bals.length=n:=⟨_,rfl⟩
 rw[hn2]at c2 hq;obtain⟨n3,hn3⟩: ∃n,t.routes.length=n:=⟨_,rfl⟩
 rw[hn3]at c3 hq;have HN:=zq hn3;clear hn0 hn1 hn2 hn3;by_cases k0:100<n0
 ·have hqf:q=false:=by rw[<-hq,decide_eq_false (show¬n0<=100 by omega)];simp
  have x0:(100:Int)<n0:=by omega
  clear hq;go_enter Tryz.func10,Tryz.ntmps10;go_upto_region 1 with fail;rw[HWA.out];clear HWA;go_wp2;go_ret
  exact⟨by first|rfl|(rw[hqf];rfl)|rw[hqf],HBWA.out⟩
 have x0: ¬(100:Int)<n0:=by omega
 by_cases k1:100<n1
 ·have hqf:q=false:=by rw[<-hq,decide_eq_false (show¬n1<=100 by omega)];simp
  have x1:(100:Int)<n1:=by omega
  clear hq;go_enter Tryz.func10,Tryz.ntmps10;go_upto_region 1 with fail;rw[HWA.out];clear HWA;go_wp2;go_ret
  exact⟨by first|rfl|(rw[hqf];rfl)|rw[hqf],HBWA.out⟩
 have x1: ¬(100:Int)<n1:=by omega
 by_cases k2:100<n2
 ·have hqf:q=false:=by rw[<-hq,decide_eq_false (show¬n2<=100 by omega)];simp
  have x2:(100:Int)<n2:=by omega
  clear hq;go_enter Tryz.func10,Tryz.ntmps10;go_upto_region 1 with fail;rw[HWA.out];clear HWA;go_wp2;go_ret
  exact⟨by first|rfl|(rw[hqf];rfl)|rw[hqf],HBWA.out⟩
 have x2: ¬(100:Int)<n2:=by omega
 by_cases k3:100<n3
 ·have hqf:q=false:=by rw[<-hq,decide_eq_false (show¬n3<=100 by omega)];simp
  have x3:(100:Int)<n3:=by omega
  clear hq;go_enter Tryz.func10,Tryz.ntmps10;go_upto_region 1 with fail;rw[HWA.out];clear HWA;go_wp2;go_ret
  exact⟨by first|rfl|(rw[hqf];rfl)|rw[hqf],HBWA.out⟩
 have x3: ¬(100:Int)<n3:=by omega
 rw[decide_eq_true (show n0<=100 by omega),decide_eq_true (show n1<=100 by omega),decide_eq_true (show n2<=100 by omega),decide_eq_true (show n3<=100 by omega),Bool.true_and,Bool.true_and,Bool.true_and,Bool.true_and]at hq;have HQ2:=zq hq;clear hq k0 k1 k2;go_enter Tryz.func10,Tryz.ntmps10;go_upto_region 1 with fail;rw[HWA.out];clear HWA;go_upto_region 3 with fail;clear x0 x1 x2 x3 c0 c1 c2;go_wp2;go_loopg [3] n3 (fun kk v wl=> ∃i:Nat,i<=n3/\n3-i<=kk/\v= .int .i64 i/\Hid (∀m y,m<i->t.routes[m]?=some y->y.path.length<=100)/\wl=wa)
 case atStart=>exact⟨0,by omega,by omega,rfl,zq fun m y h=>absurd h (by omega),rfl⟩
 obtain⟨i,hi,hik,rfl,HNO,rfl⟩:=hrel;by_cases hlt:i<n3;rotate_left
 ·have x1: ¬(i:Int)<n3:=by omega
  have hqf:q=true:=by
   rw[<-HQ2.out,List.all_eq_true];intro r hr;obtain⟨m,hm,rfl⟩:=List.getElem_of_mem hr;exact decide_eq_true (HNO.out m _ (by have:=HN.out;omega) (List.getElem?_eq_getElem hm))
  go_wp2;go_ret
  exact⟨by first|rfl|(rw[hqf];rfl)|rw[hqf],HBWA.out⟩
 obtain⟨x,hx⟩: ∃x,t.routes[i]?=some x:=⟨_,List.getElem?_eq_getElem (by rw[HN.out];omega)⟩
 have HX:=zq hx;obtain⟨bk,off,PA,pc,hab,-,-,d1,-,-⟩:=HS.out.at_ hx;rw[hab]at c3;have y0:(0:Int)<=i:=by omega
 have y1:(i:Int)<n3:=by omega
 obtain⟨u,hu⟩:=geZ (x.path.length);have HU:=zq hu;rw[hu]at d1;clear hx hu hab;by_cases hu:100<u
 ·have x1:(100:Int)<u:=by omega
  have hqf:q=false:=by
   rw[<-HQ2.out,List.all_eq_false];exact⟨x,List.mem_of_getElem? HX.out,by rw[HU.out];simp;omega⟩
  go_wp2;go_ret
  exact⟨by first|rfl|(rw[hqf];rfl)|rw[hqf],HBWA.out⟩
 have x1: ¬(100:Int)<u:=by omega
 go_wp2;go_roundg (gk-1)
 case measure=>omega
 case rel=>
  refine⟨i+1,by omega,by omega,by go_num,zq (fun m y hm hy=>?_),rfl⟩;by_cases hmi:m=i
  ·rw[hmi,HX.out]at hy
   injection hy with hy
   rw[<-hy,HU.out];omega
  ·exact HNO.out m y (by omega) hy
end
section
open Go.ChangeShapes Go.WideShapes Go.ChangeAt Go.RowKit Go.Deep Go.Joins
instance inhO13 : Inhabited St3 := ⟨⟨0, false⟩⟩
instance : Inhabited Jt3 := ⟨⟨(0, 0), (0, 0)⟩⟩
instance : Inhabited Bl3 := ⟨⟨0, 0, 0⟩⟩
instance : Inhabited (Rt3 × Value) := ⟨(⟨0, [], 0, 0⟩, .bool false)⟩
theorem qcH {α:Type}[Inhabited α]{f:α->List Value}{k:Nat}(hk:0<k)(hfl: ∀x,(f x).length=k){ts te:TypeId}(hu:Tryz.prog.underlying ts=some (.slice te))(hc:Tryz.prog.cellsOf te=k){H:Type}{enc:TypeId×Value->H}{W:World}{Q:α->Prop}
  (hel: ∀fuel cs y,cs.length=k->DataW.trod enc Tryz.prog W 0 (fun _=>true) true fuel te cs=some y-> ∃x:α,cs=f x/\Q x) {fuel:Nat} {v:Value} {y:DataW H×List MemPlace} (h:DataW.trod enc Tryz.prog W 0 (fun _=>true) true fuel ts [v]=some y):
  ∃(A:Option Addr) (c:Nat) (l:List α),v= .slice A l.length c/\SlO f k W A l.length c l/\l.length<=c/\ ∀x∈l,Q x:=by
 rcases open_slice hu h with⟨hcs,_⟩|⟨a,len,cap,m,q,D,Pl,hcs,_,hl,hm,hmm,_,hx⟩
 ·simp at hcs
  exact⟨none,0,[],hcs,SlO.nil f k W,Nat.le_refl _,fun x h=>by cases h⟩
 ·simp at hcs
  have hlm:len<=m:=by rw[hmm];split<;>omega
  have each: ∀i,i<len-> ∃x:α,(∀j u,(f x)[j]?=some u->W.cell? (a.add (i*k+j))=some u)/\Q x:=by
   intro i hi;obtain⟨cs',h1,h2⟩:=hx i (by omega);rw[hc]at h1;obtain⟨_,hlen,hcell⟩:=World.cells?_some h1;obtain⟨x,rfl,hq⟩:=hel _ cs' _ hlen h2;refine⟨x,fun j u hu=>?_,hq⟩;have hj:j<k:=by rw[<-hfl x];exact(List.getElem?_eq_some_iff.1 hu).1
   have hc2:=hcell j (by omega);rw[add_add]at hc2;rw[hc2,<-hu]
  obtain⟨g,hg⟩:=choose_lt (α:=α) each;have hln:((List.range len).map g).length=len:=by simp
  have hsl:Sl W k (some a) len cap (((List.range len).map g).flatMap f):=by
   refine⟨by rw[qbx hfl,hln],(fun e=>by cases e),fun ad ha j u hu=>?_⟩
   cases ha
   have hjl:j<len*k:=by
    have:=(List.getElem?_eq_some_iff.1 hu).1;rw[qbx hfl,hln]at this;exact this
   have hi:j/k<len:=Nat.div_lt_of_lt_mul (by rw[Nat.mul_comm];exact hjl);have e:j/k*k+j %k=j:=by rw[Nat.mul_comm];exact Nat.div_add_mod j k
   have hmk:j %k<k:=Nat.mod_lt _ hk;have hgi:((List.range len).map g)[j/k]?=some (g (j/k)):=by simp[hi]
   rw[<-e]at hu⊢;rw[qfg hfl hgi hmk]at hu;exact(hg (j/k) hi).1 _ _ hu
  refine⟨some a,cap,(List.range len).map g,by rw[hln];exact hcs,by rw[hln];exact⟨hln,hsl⟩,by rw[hln];exact hl,fun x hx=>?_⟩;obtain⟨i,hi,rfl⟩:=List.mem_map.1 hx;exact(hg i (by simpa using hi)).2
section
variable {H:Type} {enc:TypeId×Value->H} {W:World}
theorem el_int13 (fuel:Nat)(cs:List Value)(y:DataW H×List MemPlace)(hl:cs.length=1)(h:DataW.trod enc Tryz.prog W 0 (fun _=>true) true fuel 3 cs=some y): ∃x:Int,cs=inC x/\True:=by
 match cs,hl with
 |[v],_=>
  obtain⟨a,e,_,_⟩:=DataW.trod_int Tryz.underlying3 h;simp at e;subst e;exact⟨a,rfl,trivial⟩
theorem el_end13 (fuel:Nat)(cs:List Value)(y:DataW H×List MemPlace)(hl:cs.length=2)(h:DataW.trod enc Tryz.prog W 0 (fun _=>true) true fuel 147 cs=some y): ∃x:Int×Int,cs=[.int .i64 x.1,.int .i64 x.2]:=by
 have kI:Tryz.prog.cellsOf 3=1:=by kernel_rfl
 obtain⟨xs,n,_,_,_,hxl,hg⟩:=DataW.trod_struct Tryz.underlying147 h
 match cs,hl,xs,hxl with
 |[v0,v1],_,[y0,y1],_=>
  have g0:DataW.trod enc Tryz.prog W 0 (fun _=>true) true n 3 [v0]=some y0:=by simpa[kI]using hg 0 _ rfl
  have g1:DataW.trod enc Tryz.prog W 0 (fun _=>true) true n 3 [v1]=some y1:=by simpa[kI]using hg 1 _ rfl
  obtain⟨a0,e0,_,_⟩:=DataW.trod_int Tryz.underlying3 g0;obtain⟨a1,e1,_,_⟩:=DataW.trod_int Tryz.underlying3 g1;simp at e0 e1;subst e0 e1;exact⟨(a0,a1),rfl⟩
theorem el_joint13 (fuel:Nat)(cs:List Value)(y:DataW H×List MemPlace)(hl:cs.length=4)(h:DataW.trod enc Tryz.prog W 0 (fun _=>true) true fuel 149 cs=some y): ∃x:Jt3,cs=jtC x/\True:=by
 have kE:Tryz.prog.cellsOf 147=2:=by kernel_rfl
 obtain⟨xs,n,_,_,_,hxl,hg⟩:=DataW.trod_struct Tryz.underlying149 h
 match cs,hl,xs,hxl with
 |[v0,v1,v2,v3],_,[y0,y1],_=>
  have g0:DataW.trod enc Tryz.prog W 0 (fun _=>true) true n 147 [v0,v1]=some y0:=by simpa[kE]using hg 0 _ rfl
  have g1:DataW.trod enc Tryz.prog W 0 (fun _=>true) true n 147 [v2,v3]=some y1:=by simpa[kE]using hg 1 _ rfl
  obtain⟨a0,e0⟩:=el_end13 _ _ _ rfl g0;obtain⟨a1,e1⟩:=el_end13 _ _ _ rfl g1;simp at e0 e1;obtain⟨rfl,rfl⟩:=e0;obtain⟨rfl,rfl⟩:=e1;exact⟨⟨a0,a1⟩,rfl,trivial⟩
theorem el_bal13 (fuel:Nat)(cs:List Value)(y:DataW H×List MemPlace)(hl:cs.length=3)(h:DataW.trod enc Tryz.prog W 0 (fun _=>true) true fuel 151 cs=some y): ∃x:Bl3,cs=blC x/\True:=by
 have kI:Tryz.prog.cellsOf 3=1:=by kernel_rfl
 obtain⟨xs,n,_,_,_,hxl,hg⟩:=DataW.trod_struct Tryz.underlying151 h
 match cs,hl,xs,hxl with
 |[v0,v1,v2],_,[y0,y1,y2],_=>
  have g0:DataW.trod enc Tryz.prog W 0 (fun _=>true) true n 3 [v0]=some y0:=by simpa[kI]using hg 0 _ rfl
  have g1:DataW.trod enc Tryz.prog W 0 (fun _=>true) true n 3 [v1]=some y1:=by simpa[kI]using hg 1 _ rfl
  have g2:DataW.trod enc Tryz.prog W 0 (fun _=>true) true n 3 [v2]=some y2:=by simpa[kI]using hg 2 _ rfl
  obtain⟨a0,e0,_,_⟩:=DataW.trod_int Tryz.underlying3 g0;obtain⟨a1,e1,_,_⟩:=DataW.trod_int Tryz.underlying3 g1;obtain⟨a2,e2,_,_⟩:=DataW.trod_int Tryz.underlying3 g2;simp at e0 e1 e2;subst e0 e1 e2;exact⟨⟨a0,a1,a2⟩,rfl,trivial⟩
theorem el_step13 (fuel:Nat)(cs:List Value)(y:DataW H×List MemPlace)(hl:cs.length=2)(h:DataW.trod enc Tryz.prog W 0 (fun _=>true) true fuel 30 cs=some y): ∃x:St3,cs=stC x/\True:=by
 have kI:Tryz.prog.cellsOf 3=1:=by kernel_rfl
 have kB:Tryz.prog.cellsOf 4=1:=by kernel_rfl
 obtain⟨xs,n,_,_,_,hxl,hg⟩:=DataW.trod_struct Tryz.underlying30 h
 match cs,hl,xs,hxl with
 |[v0,v1],_,[y0,y1],_=>
  have g0:DataW.trod enc Tryz.prog W 0 (fun _=>true) true n 3 [v0]=some y0:=by simpa[kI]using hg 0 _ rfl
  have g1:DataW.trod enc Tryz.prog W 0 (fun _=>true) true n 4 [v1]=some y1:=by simpa[kB]using hg 1 _ rfl
  obtain⟨a0,e0,_,_⟩:=DataW.trod_int Tryz.underlying3 g0;obtain⟨a1,e1,_⟩:=DataW.trod_bool Tryz.underlying4 g1;simp at e0 e1;subst e0 e1;exact⟨⟨a0,a1⟩,rfl,trivial⟩
theorem el_route13 (fuel:Nat)(cs:List Value)(y:DataW H×List MemPlace)(hl:cs.length=4)(h:DataW.trod enc Tryz.prog W 0 (fun _=>true) true fuel 75 cs=some y): ∃x:Rt3×Value,cs=rtC x/\(PathV W x.2 x.1.path/\CapV x.2):=by
 have kI:Tryz.prog.cellsOf 3=1:=by kernel_rfl
 have kS:Tryz.prog.cellsOf 35=1:=by kernel_rfl
 obtain⟨xs,n,_,_,_,hxl,hg⟩:=DataW.trod_struct Tryz.underlying75 h
 match cs,hl,xs,hxl with
 |[v0,v1,v2,v3],_,[y0,y1,y2,y3],_=>
  have g0:DataW.trod enc Tryz.prog W 0 (fun _=>true) true n 3 [v0]=some y0:=by simpa[kI]using hg 0 _ rfl
  have g1:DataW.trod enc Tryz.prog W 0 (fun _=>true) true n 35 [v1]=some y1:=by simpa[kS]using hg 1 _ rfl
  have g2:DataW.trod enc Tryz.prog W 0 (fun _=>true) true n 3 [v2]=some y2:=by simpa[kI]using hg 2 _ rfl
  have g3:DataW.trod enc Tryz.prog W 0 (fun _=>true) true n 3 [v3]=some y3:=by simpa[kI]using hg 3 _ rfl
  obtain⟨a0,e0,_,_⟩:=DataW.trod_int Tryz.underlying3 g0;obtain⟨A,c,l,rfl,hs,hcap,_⟩:=qcH (f:=stC) (k:=2) (by decide) (fun _=>rfl) Tryz.underlying35 (by kernel_rfl) el_step13 g1;obtain⟨a2,e2,_,_⟩:=DataW.trod_int Tryz.underlying3 g2;obtain⟨a3,e3,_,_⟩:=DataW.trod_int Tryz.underlying3 g3;simp at e0 e2 e3;subst e0 e2 e3;exact⟨(⟨a0,l,a2,a3⟩,.slice A l.length c),rfl,⟨A,c,rfl,hs⟩,fun A' n' c' e=>by cases e;exact hcap⟩
end
theorem topo_open {H:Type}{enc:TypeId×Value->H}{W:World}{r:Reach}{b0:Nat}{v:Value}{d:DataW H}{p:List MemPlace}(hv:Value.okWide Tryz.prog W r b0 27 v)
  (h:DataW.Trod enc Tryz.prog W 0 (fun _=>true) true 27 v d p): ∃(t:Tp3) (a:TpA),v= .agg (tpC t a)/\TopR W t a/\t.joints.length<=a.cj:=by
 obtain⟨v0,v1,v2,v3,y0,y1,y2,y3,n,rfl,_,_,h0,h1,h2,h3⟩:=open_agg4 Tryz.underlying27 (by kernel_rfl) (by kernel_rfl) hv h;obtain⟨A0,c0,l0,rfl,s0,_,_⟩:=qcH (f:=inC) (k:=1) (by decide) (fun _=>rfl) Tryz.underlying22 (by kernel_rfl) el_int13 h0;obtain⟨A1,c1,l1,rfl,s1,hc1,_⟩:=qcH (f:=jtC) (k:=4) (by decide) (fun _=>rfl) Tryz.underlying23 (by kernel_rfl) el_joint13 h1;obtain⟨A2,c2,l2,rfl,s2,_,_⟩:=qcH (f:=blC) (k:=3) (by decide) (fun _=>rfl) Tryz.underlying24 (by kernel_rfl) el_bal13 h2;obtain⟨A3,c3,l3,rfl,s3,_,hq⟩:=qcH (f:=rtC) (k:=4) (by decide) (fun _=>rfl) Tryz.underlying25 (by kernel_rfl) el_route13 h3;have hln:(l3.map (·.1)).length=l3.length:=by simp
 refine⟨⟨l0,l1,l2,l3.map (·.1)⟩,⟨A0,c0,A1,c1,A2,c2,A3,c3⟩,by unfold tpC;simp only[hln],⟨s0,s1,s2,?_⟩,hc1⟩;show RtsR W A3 (l3.map (·.1)).length c3 (l3.map (·.1))
 rw[hln];exact⟨l3,rfl,s3,hq⟩
end
section
open Go.RowKit
open Go.Great Go.ChangeShapes Go.WideShapes Go.ChangeAt Go.Deep Go.Joins
instance : Inhabited Sc3 := ⟨⟨0, 0⟩⟩
def scC17 (s:Sc3):List Value:=[.int .i64 s.to_,.int .i64 s.timer]
def scA17 (s:Sc3):Array Value:=#[.int .i64 s.to_,.int .i64 s.timer]
structure MaA where
 ap:Option Addr
 cp:Nat
 aq:Option Addr
 cs:Nat
def maC (m:Ma3)(a:MaA):Array Value:=#[.int .i64 m.ref,.bool m.rev,.slice a.ap m.path.length a.cp,.slice a.aq m.sects.length a.cs,.int .i64 m.gap]
structure MaR (w:World) (m:Ma3) (a:MaA):Prop where
 path:SlO stC 2 w a.ap m.path.length a.cp m.path
 sects:SlO scC17 2 w a.aq m.sects.length a.cs m.sects
 capP:m.path.length<=a.cp
 capS:m.sects.length<=a.cs
 top: ∀s∈m.sects,s.to_<=9223372036854775807
theorem MaR.under {w w':World}{m:Ma3}{a:MaA}(h:MaR w m a)(hb:Below w.heap.size w w'):MaR w' m a:=⟨h.path.under hb,h.sects.under hb,h.capP,h.capS,h.top⟩
end
section
open Go.RowKit
open Go.Great
theorem qeu {t:Tp3}{r:Rt3}(h:r.id<1\/r.path.length=0\/8<r.path.length):qbD t r=1:=by
 unfold qbD;rw[if_pos h]
theorem route_edge {t:Tp3}{r:Rt3}{m:Nat}{s:St3}(hm:r.path[m]?=some s)(h:edgeB t s.edge=false):qbD t r=1:=by
 unfold qbD;split
 ·rfl
 ·rw[if_neg]
  intro hc;rw[Bool.and_eq_true,List.all_eq_true]at hc;have:=hc.1 s (List.mem_of_getElem? hm);rw[h]at this
  cases this
theorem twice_iff {path:List St3}:qbs path=false↔ ∀(m k:Nat) (x y:St3),m<k->path[m]?=some x->path[k]?=some y->x.edge≠y.edge:=by
 unfold qbs;rw[decide_eq_false_iff_not,Classical.not_not];unfold List.Nodup;rw[List.pairwise_iff_getElem]
 constructor
 ·intro h m k x y hmk hx hy he
  obtain⟨hm,ex⟩:=List.getElem?_eq_some_iff.1 hx;obtain⟨hk,ey⟩:=List.getElem?_eq_some_iff.1 hy;refine h m k (by simpa using hm) (by simpa using hk) hmk ?_;rw[List.getElem_map,List.getElem_map,ex,ey,he]
 ·intro h m k hm hk hmk he
  rw[List.getElem_map,List.getElem_map]at he;exact h m k _ _ hmk (List.getElem?_eq_getElem (by simpa using hm)) (List.getElem?_eq_getElem (by simpa using hk)) he
theorem route_twice {t:Tp3}{r:Rt3}{m k:Nat}{x y:St3}(hmk:m<k)(hx:r.path[m]?=some x)(hy:r.path[k]?=some y)(he:x.edge=y.edge):qbD t r=1:=by
 unfold qbD;split
 ·rfl
 ·rw[if_neg]
  intro hc;rw[Bool.and_eq_true]at hc;have h2:qbs r.path=false:=by simpa using hc.2
  exact twice_iff.1 h2 m k x y hmk hx hy he
theorem route_rest {t:Tp3}{r:Rt3}(h1: ¬(r.id<1\/r.path.length=0\/8<r.path.length))(h2: ∀(m:Nat) (s:St3),r.path[m]?=some s->edgeB t s.edge=true)(h3: ∀(m k:Nat) (x y:St3),m<k->r.path[m]?=some x->r.path[k]?=some y->x.edge≠y.edge):
  qbD t r=if lenE t r.path=0 then(if r.gap<0\/lenN t r.path-1<r.gap\/r.timer<1\/1000<r.timer then 1 else if(r.path.all (qcr t))=true then 0 else 4)else lenE t r.path:=by
 have h4:(r.path.all fun s=>edgeB t s.edge)=true:=by
  rw[List.all_eq_true];intro s hs;obtain⟨m,hm,rfl⟩:=List.getElem_of_mem hs;exact h2 m _ (List.getElem?_eq_getElem hm)
 unfold qbD;rw[if_neg h1,h4,twice_iff.2 h3,if_pos (by decide)]
theorem qex {l:List Bl3}{f:Bl3->Bool}{k:Nat}{b:Bl3}(hb:l[k]?=some b):(l.take (k+1)).any f=((l.take k).any f||f b):=by
 rw[List.take_add_one,hb,List.any_append];simp
theorem rroute1_any (t:Tp3)(a:TpA)(r:Rt3)(v:Value)(w:World)(ht:TopR w t a)(hv:PathV w v r.path)(hok:qav t=true)(hj:t.joints.length<=100)(hb:t.bals.length<=100)(hl:r.path.length<=1048576):
  Calls Tryz.prog 114 #[.agg (tpC t a),.agg (rtA r v)] w fun e w'=>e= .returned (.int .i64 (qbD t r))/\Below w.heap.size w w':=by
 obtain⟨A,c,rfl,hp⟩:=hv;obtain⟨rE,hrE⟩: ∃e,qbD t r=e:=⟨_,rfl⟩
 have HRE:=zq hrE;rw[hrE];clear hrE;obtain⟨rid,path,gap,timer⟩:=r;unfold rtA;dsimp only at*;obtain⟨n,hnn⟩:=geZ (path.length);have HL:=zq hnn;rw[hnn]at hp hl;rw[hnn];clear hnn;obtain⟨wa,hwa,hbwa,HWA,HBWA,h0,h1⟩:=bx2Z w 27 (tpC t a) 75 #[.int .i64 rid,.slice A n c,.int .i64 gap,.int .i64 timer];have H0:=zH h0;have H1:=zH h1;have HT:=zq (fun W (hW:Below w.heap.size w W)=>ht.under hW);have HP:=zq (fun W (hW:Below w.heap.size w W)=>hp.under hW);have HBA:=zq (fun W (hW:Below wa.heap.size wa W)=>hbwa.trans (hW.mono hbwa.size));have HOK:=zq hok;have c0:wa.cell? ⟨w.heap.size+1,0,none⟩=some (.int .i64 rid):=h1.cell 0;have c1:wa.cell? ⟨w.heap.size+1,1,none⟩=some (.slice A n c):=h1.cell 1;clear hwa hbwa h0 h1 ht hp hok;by_cases k0:rid<1
 ·have x0:rid<1:=by omega
  have HK:=zq k0;clear k0;go_enter Tryz.func114,Tryz.ntmps114;go_upto_region 1 with fail;rw[HWA.out];clear HWA;go_wp2;go_ret
  have hE:rE=1:=by rw[<-HRE.out];exact qeu (by have h_:=HL.out;have h2_:=HK.out;simp only;omega)
  subst hE;exact⟨by first|rfl|simp,HBWA.out⟩
 have x0: ¬rid<1:=by omega
 by_cases k1:n=0
 ·have x1:(n:Int)=0:=by omega
  have HK:=zq k1;clear k1;go_enter Tryz.func114,Tryz.ntmps114;go_upto_region 1 with fail;rw[HWA.out];clear HWA;go_wp2;go_ret
  have hE:rE=1:=by rw[<-HRE.out];exact qeu (by have h_:=HL.out;have h2_:=HK.out;simp only;omega)
  subst hE;exact⟨by first|rfl|simp,HBWA.out⟩
 have x1: ¬(n:Int)=0:=by omega
 by_cases k2:8<n
 ·have x2:(8:Int)<n:=by omega
  have HK:=zq k2;clear k2;go_enter Tryz.func114,Tryz.ntmps114;go_upto_region 1 with fail;rw[HWA.out];clear HWA;go_wp2;go_ret
  have hE:rE=1:=by rw[<-HRE.out];exact qeu (by have h_:=HL.out;have h2_:=HK.out;simp only;omega)
  subst hE;exact⟨by first|rfl|simp,HBWA.out⟩
 have x2: ¬(8:Int)<n:=by omega
 have HNZ:=zq (show¬rid<1/\n≠0/\n<=8 from⟨k0,k1,by omega⟩);have hn8:n<=8:=by omega
 have hz2:((n:Int)==0)=false:=by simp[k1]
 go_enter Tryz.func114,Tryz.ntmps114;go_upto_region 1 with fail;rw[HWA.out];clear HWA;go_upto_region 3 with fail;clear x0 x1 x2 k0 k1 k2 hz2 c0 c1;go_wp2;go_loopg [5] n (fun kk v wl=> ∃i:Nat,i<=n/\n-i<=kk/\v= .int .i64 i/\Hid (∀(m:Nat) (s:St3),m<i->path[m]?=some s->edgeB t s.edge=true)/\Hid (∀(m k:Nat) (x y:St3),m<k->k<i->path[m]?=some x->path[k]?=some y->x.edge≠y.edge)/\Below wa.heap.size wa wl)
 case atStart=>exact⟨0,by omega,by omega,rfl,zq (fun m s h=>absurd h (by omega)),zq (fun m k x y _ h=>absurd h (by omega)),Below.refl _ _⟩
 obtain⟨i,hi,hik,rfl,HED,HTW,hwr⟩:=hrel;have HWR:=zq hwr;have c1:wr.cell? ⟨w.heap.size+1,1,none⟩=some (.slice A n c):=(H1.out wr hwr).cell 1;clear hwr;by_cases hlt:i<n;rotate_left
 ·obtain rfl:i=n:=by omega
  have x1: ¬(i:Int)<i:=by omega
  have HREST:=zq (route_rest (t:=t) (r:=⟨rid,path,gap,timer⟩) (by have h1_:=HL.out;have h2_:=HNZ.out;simp only;omega) (fun m s hm=>HED.out m s (by have h1_:=HL.out;have h2_:m<path.length:=(List.getElem?_eq_some_iff.1 hm).1;omega) hm) (fun m k x y hmk hx hy=>HTW.out m k x y hmk (by have h1_:=HL.out;have h2_:k<path.length:=(List.getElem?_eq_some_iff.1 hy).1;omega) hx hy));have HALL:=zq (fun s (hs:s∈path)=>(show edgeB t s.edge=true from by obtain⟨m,hm,rfl⟩:=List.getElem_of_mem hs;exact HED.out m _ (by have h1_:=HL.out;omega) (List.getElem?_eq_getElem hm)));clear HED HTW hi hik;go_upto_region 14 with fail;clear x1;go_wp2_with (with_reducible refine ldZ 64 (H0.out wr HWR.out) ?_);have hlo:=HBA.out _ HWR.out;refine(qfI t a path A i c wr (HT.out _ hlo) (HP.out _ hlo) (by omega) hj HOK.out).mono ?_;rintro e w4 ⟨rfl,hb4⟩;have HW4:=tB HWR hb4;clear hb4 hlo c1;obtain⟨lE,hlE⟩: ∃e,lenE t path=e:=⟨_,rfl⟩
  obtain⟨lN,hlN⟩: ∃e,lenN t path=e:=⟨_,rfl⟩
  have HLE:=zq hlE;have HLN:=zq hlN;rw[hlE,hlN];clear hlE hlN;by_cases hz:lE=0;rotate_left
  ·have e1:(lE==0)=false:=by simp[hz]
   have e2:(lE !=0)=true:=by simp[hz]
   go_wp2;go_ret
   have hE:rE=lE:=by rw[<-HRE.out,HREST.out,if_neg (by rw[HLE.out];exact hz)];exact HLE.out
   subst hE;exact⟨by first|rfl|simp,HBA.out _ HW4.out⟩
  subst hz;have d2:w4.cell? ⟨w.heap.size+1,2,none⟩=some (.int .i64 gap):=(H1.out w4 HW4.out).cell 2;have d3:w4.cell? ⟨w.heap.size+1,3,none⟩=some (.int .i64 timer):=(H1.out w4 HW4.out).cell 3;have hln: -1000<=lN/\lN<=8000000:=by have h_:=HLN.out;unfold lenN at h_;rw[if_pos HLE.out]at h_;have h2_:=qck HOK.out HALL.out;rw[h_,HL.out]at h2_;omega
  have hw1:IntKind.i64.wrap (lN-1)=lN-1:=by rw[IntKind.wrap_i64];omega
  have HR2:=zq (show rE=if gap<0\/lN-1<gap\/timer<1\/1000<timer then 1 else if(path.all (qcr t))=true then 0 else 4 from by rw[<-HRE.out,HREST.out,if_pos HLE.out,HLN.out]);clear HREST hln;by_cases z0:gap<0
  ·go_upto_region 17 with fail
   go_wp2;go_ret
   have hE:rE=1:=by rw[HR2.out,if_pos (by omega)]
   subst hE;exact⟨by first|rfl|simp,HBA.out _ HW4.out⟩
  by_cases z1:lN-1<gap
  ·go_upto_region 17 with fail
   go_wp2;go_ret
   have hE:rE=1:=by rw[HR2.out,if_pos (by omega)]
   subst hE;exact⟨by first|rfl|simp,HBA.out _ HW4.out⟩
  by_cases z2:timer<1
  ·go_upto_region 17 with fail
   go_wp2;go_ret
   have hE:rE=1:=by rw[HR2.out,if_pos (by omega)]
   subst hE;exact⟨by first|rfl|simp,HBA.out _ HW4.out⟩
  by_cases z3:1000<timer
  ·go_upto_region 17 with fail
   go_wp2;go_ret
   have hE:rE=1:=by rw[HR2.out,if_pos (by omega)]
   subst hE;exact⟨by first|rfl|simp,HBA.out _ HW4.out⟩
  have HR3:=zq (show rE=if(path.all (qcr t))=true then 0 else 4 from by rw[HR2.out,if_neg (by omega)]);clear HR2;go_upto_region 19 with fail;clear z0 z1 z2 z3 hw1 d2 d3;go_wp2;go_loopg [10] i (fun kk v wl=> ∃j:Nat,j<=i/\i-j<=kk/\v= .int .i64 j/\Hid (∀(m:Nat) (s:St3),m<j->path[m]?=some s->qcr t s=true)/\Below wa.heap.size wa wl)
  case atStart=>exact⟨0,by omega,by omega,rfl,zq (fun m s h=>absurd h (by omega)),HW4.out⟩
  obtain⟨j,hj1,hjk,rfl,HHB,hwr⟩:=hrel;have HW5:=zq hwr;have c1:wr.cell? ⟨w.heap.size+1,1,none⟩=some (.slice A i c):=(H1.out wr hwr).cell 1;clear hwr;by_cases hjl:j<i;rotate_left
  ·have x1: ¬(j:Int)<i:=by omega
   go_wp2;go_ret
   have hE:rE=0:=by rw[HR3.out,if_pos (List.all_eq_true.2 fun s hs=>by obtain⟨m,hm,rfl⟩:=List.getElem_of_mem hs;exact HHB.out m _ (by have h1_:=HL.out;omega) (List.getElem?_eq_getElem hm))]
   subst hE;exact⟨by first|rfl|simp,HBA.out _ HW5.out⟩
  obtain⟨x,hx⟩:=glZ path (j) (by have:=HL.out;omega);have HX:=zq hx;obtain⟨bk,off,rfl,d0,-⟩:=(HP.out wr (HBA.out wr HW5.out)).step hx;clear hx;obtain⟨ex,hex⟩: ∃e,x.edge=e:=⟨_,rfl⟩
  have HEX:=zq hex;rw[hex]at d0;clear hex;obtain⟨nb,hnb⟩: ∃m,t.bals.length=m:=⟨_,rfl⟩
  have HNB:=zq hnb;have f2:wr.cell? ⟨w.heap.size,2,none⟩=some (.slice a.ab nb a.cb):=by have h_:=(H0.out wr HW5.out).cell 2;rw[<-hnb];exact h_
  have HBL:=zq (HT.out wr (HBA.out wr HW5.out)).b;have hnb2:nb<=100:=by omega
  clear hnb;obtain⟨k1,hk1⟩: ∃k1,k1=gk:=⟨_,rfl⟩
  subst hk1;obtain⟨w5,hw5⟩: ∃w5,w5=wr:=⟨_,rfl⟩
  subst hw5;have y0:(0:Int)<=j:=by omega
  have y1:(j:Int)<i:=by omega
  go_upto_region 23 with fail;go_wp2;go_loopg [11,12] nb (fun kk vh v wl=> ∃k q:Nat,k<=nb/\nb-k<=kk/\v= .int .i64 k/\vh= .bool ((t.bals.take k).any fun b=>b.edge==ex)/\wl=w5.drewN q)
  case atStart=>exact⟨0,0,by omega,by omega,rfl,rfl,rfl⟩
  obtain⟨k,q,hk,hkk,rfl,rfl,rfl⟩:=hrel;obtain⟨hb0,hhb⟩: ∃b,((t.bals.take k).any fun b=>b.edge==ex)=b:=⟨_,rfl⟩
  have HB0:=zq hhb;simp only[hhb];clear hhb;by_cases hkl:k<nb;rotate_left
  ·have x1: ¬(k:Int)<nb:=by omega
   have hhas:qcr t x=hb0:=by rw[<-HB0.out,List.take_of_length_le (by have:=HNB.out;omega),<-HEX.out];rfl
   cases hb0 with
   |false=>
    go_wp2;go_ret
    have hE:rE=4:=by rw[HR3.out,if_neg (fun h=>by have h_:=List.all_eq_true.1 h x (List.mem_of_getElem? HX.out);rw[hhas]at h_;cases h_)]
    subst hE;exact⟨by first|rfl|simp,HBA.out _ (qac HW5.out q)⟩
   |true=>
    go_wp2;go_roundg (k1-1)
    case measure=>omega
    case rel=>
     refine⟨j+1,by omega,by omega,by go_num,zq (fun m s hm hs=>?_),qac HW5.out q⟩;by_cases hmj:m=j
     ·rw[hmj,HX.out]at hs
      injection hs with hs
      rw[<-hs];exact hhas
     ·exact HHB.out m s (by omega) hs
  obtain⟨b,hbx⟩: ∃b,t.bals[k]?=some b:=⟨_,List.getElem?_eq_getElem (by have:=HNB.out;omega)⟩
  have HBX:=zq hbx;obtain⟨b2,o2,hab,-,g1,-⟩:=HBL.out.bal hbx;rw[hab]at f2;have z0:(0:Int)<=k:=by omega
  have z1:(k:Int)<nb:=by omega
  obtain⟨eb,heb⟩: ∃e,b.edge=e:=⟨_,rfl⟩
  have HEB:=zq heb;rw[heb]at g1;clear heb hbx hab
  cases hb0 with
  |true=>
   go_upto_region 26 with fail;go_quiet (fail);go_wp2;go_roundg (gk-1)
   case measure=>omega
   case rel=>
    refine⟨k+1,_,by omega,by omega,by go_num,?_,by first|rfl|rw[World.drewN_drewN]⟩;rw[qex HBX.out,HB0.out,HEB.out]
    first|rfl|simp
  |false=>
   by_cases hee:eb=ex
   ·subst hee
    go_upto_region 26 with fail;go_quiet (fail);go_wp2;go_roundg (gk-1)
    case measure=>omega
    case rel=>
     refine⟨k+1,_,by omega,by omega,by go_num,?_,by first|rfl|rw[World.drewN_drewN]⟩;rw[qex HBX.out,HB0.out,HEB.out]
     first|rfl|simp
   ·have e1:(eb==ex)=false:=by simp[hee]
    go_upto_region 26 with fail;go_quiet (fail);go_wp2;go_roundg (gk-1)
    case measure=>omega
    case rel=>
     refine⟨k+1,_,by omega,by omega,by go_num,?_,by first|rfl|rw[World.drewN_drewN]⟩;rw[qex HBX.out,HB0.out,HEB.out];rw[e1];rfl
 obtain⟨x,hx⟩:=glZ path (i) (by have:=HL.out;omega);have HX:=zq hx;obtain⟨bk,off,rfl,-,-⟩:=(HP.out w (Below.refl _ _)).step hx;obtain⟨ex,hex⟩: ∃e,x.edge=e:=⟨_,rfl⟩
 have HEX:=zq hex;have HCX:=zq (fun W (hW:Below w.heap.size w W)=>(show W.cell? ⟨bk,off+i*2,none⟩=some (.int .i64 ex)from by rw[<-hex];obtain⟨b_,o_,e_,h1_,h2_⟩:=(HP.out W hW).step hx;injection e_ with e_;injection e_ with e1_ e2_ _;subst e1_ e2_;exact h1_));obtain⟨bq,hbq⟩: ∃b,edgeB t ex=b:=⟨_,rfl⟩
 have HBQ:=zq hbq;have y0:(0:Int)<=(i:Int):=by omega
 have y1:(i:Int)<n:=by omega
 clear hx hbq hex;go_upto_region 6 with fail;clear c1;refine wp_region_held_drew (S:=(fun W_=>Has W_ (w.heap.size) 27 (tpC t a)/\Has W_ (w.heap.size+1) 75 #[.int .i64 rid,.slice (some ⟨bk,off,none⟩) n c,.int .i64 gap,.int .i64 timer]/\Below wr.heap.size wr W_)) (by kernel_rfl) ?_ (fun hHeld=>?_)
 ·exact⟨(H0.out _ HWR.out).draw,(H1.out _ HWR.out).draw,qaf (Below.refl _ _)⟩
 refine tlZ 0 35 w.heap.size (tpC t a) (fun _ ⟨h_,_,_⟩=>h_) (h:=?_);simp only[lyZ];refine tkZ 1 36 (h:=?_);simp only[lyZ];refine tqZ 2 37 (fun w_ hSw=>(show w_.cell? ⟨w.heap.size+1,1,none⟩=some (.slice (some ⟨bk,off,none⟩) n c:Value)from by have h_:=hSw.2.1.cell 1;exact h_)) (h:=?_);simp only[lyZ];refine tkZ 3 38 (h:=?_);simp only[lyZ];refine tkZ 4 39 (h:=?_);simp only[lyZ];refine tkZ 5 40 (h:=?_);simp only[lyZ];refine tqZ 6 41 (fun w_ hSw=>HCX.out w_ (HBA.out w_ (HWR.out.trans (hSw.2.2.mono HWR.out.size)))) (h:=?_);simp only[lyZ];refine rdZ [7] ?_;refine acZ (some 42) (fun K hK=>?_) ?_
 ·go_simp
  obtain⟨s0,s1,s2⟩:=hHeld;refine(qcE t a ex _).mono ?_;rw[HBQ.out];rintro e_ vs ⟨rfl,hbs⟩;go_wp2_with fail;refine hK.out _ _ ?_ (fun hHeld=>?_)
  ·exact⟨s0.u hbs,s1.u hbs,bu s2 hbs⟩
  clear hK K s0 s1 s2
  try simp only[lyZ]
  refine tkZ 8 6 (h:=?_);simp only[lyZ];refine dnZ ?_;have HBE:=zq (HWR.out.trans (hHeld.2.2.mono HWR.out.size));clear hHeld
  cases bq with
  |false=>
   go_wp2;go_ret
   have hE:rE=1:=by rw[<-HRE.out];exact route_edge (m:=i) HX.out (by rw[HEX.out];exact HBQ.out)
   subst hE;exact⟨by first|rfl|simp,HBA.out _ HBE.out⟩
  |true=>
   have c1:vs.cell? ⟨w.heap.size+1,1,none⟩=some (.slice (some ⟨bk,off,none⟩) n c):=(H1.out vs HBE.out).cell 1;have d0:=HCX.out vs (HBA.out vs HBE.out);obtain⟨k1,hk1⟩: ∃k1,k1=gk:=⟨_,rfl⟩
   subst hk1;go_upto_region 9 with fail;go_wp2;go_loopg [7] i (fun kk v wl=> ∃k q:Nat,k<=i/\i-k<=kk/\v= .int .i64 k/\Hid (∀(m:Nat) (y:St3),m<k->path[m]?=some y->y.edge≠ex)/\wl=vs.drewN q)
   case atStart=>exact⟨0,0,by omega,by omega,rfl,zq (fun m y h=>absurd h (by omega)),rfl⟩
   obtain⟨k,q,hk,hkk,rfl,HN2,rfl⟩:=hrel;by_cases hkl:k<i;rotate_left
   ·have x1: ¬(k:Int)<i:=by omega
    go_wp2;go_roundg (k1-1)
    case measure=>omega
    case rel=>
     refine⟨i+1,by omega,by omega,by go_num,zq (fun m s hm hs=>?_),zq (fun m l u v hml hl hu hv=>?_),qac HBE.out q⟩
     ·by_cases hmi:m=i
      ·rw[hmi,HX.out]at hs
       injection hs with hs
       rw[<-hs,HEX.out];exact HBQ.out
      ·exact HED.out m s (by omega) hs
     ·by_cases hli:l=i
      ·rw[hli,HX.out]at hv
       injection hv with hv
       rw[<-hv,HEX.out];exact HN2.out m u (by omega) hu
      ·exact HTW.out m l u v hml (by omega) hu hv
   obtain⟨y,hy⟩:=glZ path (k) (by have:=HL.out;omega);have HY:=zq hy;obtain⟨b2,o2,hb2,g0,-⟩:=(HP.out vs (HBA.out vs HBE.out)).step hy;injection hb2 with hb2
   injection hb2 with hb3 hb4 _
   subst hb3 hb4;obtain⟨ey,hey⟩: ∃e,y.edge=e:=⟨_,rfl⟩
   have HEY:=zq hey;rw[hey]at g0;clear hy hey;have z0:(0:Int)<=k:=by omega
   have z1:(k:Int)<n:=by omega
   by_cases hee:ey=ex
   ·subst hee
    go_upto_region 12 with fail;go_quiet (fail);go_wp2;go_ret
    have hE:rE=1:=by rw[<-HRE.out];exact route_twice (m:=k) (k:=i) hkl HY.out HX.out (by rw[HEY.out,HEX.out])
    subst hE;exact⟨by first|rfl|simp,HBA.out _ (by first|exact qac HBE.out _|(rw[World.drewN_drewN];exact qac HBE.out _))⟩
   ·have e1:(ey==ex)=false:=by simp[hee]
    go_upto_region 12 with fail;go_quiet (fail);go_wp2;go_roundg (gk-1)
    case measure=>omega
    case rel=>
     refine⟨k+1,_,by omega,by omega,by go_num,zq (fun m z hm hz=>?_),by first|rfl|rw[World.drewN_drewN]⟩;by_cases hmk:m=k
     ·rw[hmk,HY.out]at hz
      injection hz with hz
      rw[<-hz,HEY.out];exact hee
     ·exact HN2.out m z (by omega) hz
 exact AllReadyH.nil
end
end Go.Proofs.YtahadmeilajdgaaGreatDoor
