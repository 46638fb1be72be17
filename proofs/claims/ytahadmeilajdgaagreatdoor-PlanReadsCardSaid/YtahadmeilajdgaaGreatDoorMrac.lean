/-
  Our own text, joined.
-/
import Derived.Test.YtahadmeilajdgaaGreatDoorMrab
import Derived.Test.YtahadmeilajdgaaGreatDoorMraa
import Derived.Lib.Hide
import Derived.BigQuiet
namespace Go.Proofs.YtahadmeilajdgaaGreatDoor
set_option maxRecDepth 100000
set_option maxHeartbeats 8000000
section
def qbm (t:Tp3):Nat->St3->Int->List St3
 |0,s,_=>[s]
 |k+1,s,left=>
  if 0<left then
   (match qaC t s with
   |[x]=>s::qbm t k x (left-lenAt t x)
   |_=>[s])
  else[s]
def goneL (t:Tp3)(p:Ps3)(n:Int):List St3:=qbm t 59 (stepP p) (n-qaA t p)
def intoP (t:Tp3)(p:Ps3):Int:=lenAt t (stepP p)-qaA t p
theorem gone_head (t:Tp3)(k:Nat)(s:St3)(left:Int): ∃r,qbm t k s left=s::r:=by
 cases k with
 |zero=>exact⟨[],rfl⟩
 |succ k=>
  rw[qbm];split
  ·split
   ·exact⟨_,rfl⟩
   ·exact⟨[],rfl⟩
  ·exact⟨[],rfl⟩
structure GoneP (t:Tp3) (p x:Ps3) (n:Int) (g:List St3):Prop where
 split: ∃pre,g=pre++[stepP x]/\sumT t pre+intoP t x=intoP t p+n
 head: ∃r,g=stepP p::r
 way:wayB t g=true
 edges: ∀a∈g,edgeB t a.edge=true
 on:onB t x=true
theorem gone_walk {t:Tp3}(ht:qaF t=true){k j:Nat}(hk:k<=j){p x:Ps3}{n:Int}(hp:onB t p=true)(hn:0<=n)(h:walkF t k p n=(x,0)):GoneP t p x n (qbm t j (stepP p) (n-qaA t p))/\(qbm t j (stepP p) (n-qaA t p)).length<=k+1:=by
 induction k generalizing j p n with
 |zero=>
  rcases qgv t 0 p n with⟨h0,h1⟩|⟨_,⟨e,he,h3,_⟩|⟨s,i,hi,_⟩⟩
  ·rw[h1]at h
   injection h with h _
   subst h;have e1:qbm t j (stepP p) (n-qaA t p)=[stepP p]:=by
    cases j with
    |zero=>rfl
    |succ j=>rw[qbm,if_neg (by omega)]
   rw[e1];refine⟨⟨⟨[],by rw[qcM];rfl,?_⟩,⟨[],rfl⟩,rfl,fun a ha=>?_,moved_on hp hn h0⟩,by simp⟩
   ·unfold intoP
    rw[qcM,qbN];show 0+(lenAt t (stepP p)-(qaA t p-n))=_
    omega
   ·rw[List.mem_singleton]at ha
    subst ha;exact(qbu.1 hp).1
  ·rw[he]at h
   have h:e=0:=congrArg Prod.snd h;omega
  ·omega
 |succ k ih=>
  rcases qgv t (k+1) p n with⟨h0,h1⟩|⟨h0,⟨e,he,h3,_⟩|⟨s,i,hi,hs,hw⟩⟩
  ·rw[h1]at h
   injection h with h _
   subst h;have e1:qbm t j (stepP p) (n-qaA t p)=[stepP p]:=by
    cases j with
    |zero=>rfl
    |succ j=>rw[qbm,if_neg (by omega)]
   rw[e1];refine⟨⟨⟨[],by rw[qcM];rfl,?_⟩,⟨[],rfl⟩,rfl,fun a ha=>?_,moved_on hp hn h0⟩,by simp⟩
   ·unfold intoP
    rw[qcM,qbN];show 0+(lenAt t (stepP p)-(qaA t p-n))=_
    omega
   ·rw[List.mem_singleton]at ha
    subst ha;exact(qbu.1 hp).1
  ·rw[he]at h
   have h:e=0:=congrArg Prod.snd h;omega
  ·obtain rfl:k=i:=by omega
   rw[hw]at h;have hm:s∈qaC t (stepP p):=by rw[hs];exact List.mem_singleton.2 rfl
   have ha:=qbw.1 hm;obtain⟨j,rfl⟩: ∃j',j=j'+1:=⟨j-1,by omega⟩
   have h2:=ih (j:=j) (by omega) (begin_on ht ha.2.1) (by omega) h;rw[qcL,qbM]at h2;have e1:qbm t (j+1) (stepP p) (n-qaA t p)=stepP p::qbm t j s (n-qaA t p-lenAt t s):=by
    rw[qbm,if_pos (by omega),hs]
   rw[e1];obtain⟨⟨⟨pre,g1,g2⟩,⟨r,g3⟩,g4,g5,g6⟩,g7⟩:=h2;refine⟨⟨⟨stepP p::pre,by rw[g1];rfl,?_⟩,⟨_,rfl⟩,?_,fun a hq=>?_,g6⟩,by rw[List.length_cons];omega⟩
   ·have g8:intoP t (qb1 t s)=0:=by unfold intoP;rw[qcL,qbM];omega
    rw[g8]at g2;show lenAt t (stepP p)+sumT t pre+intoP t x=intoP t p+n
    unfold intoP at g2⊢;omega
   ·rw[qcL]at g3
    rw[g3]at g4⊢;rw[wayB,ha.2.2,g4]
    rfl
   ·rcases List.mem_cons.1 hq with rfl|hq
    ·exact ha.1
    ·exact g5 a hq
theorem gone_ok {t:Tp3}{p x:Ps3}{n:Int}(h:walkE t p n=(x,0)):qax t=0/\qa4 t p=true/\0<=n/\n<=1099511627776/\GoneP t p x n (goneL t p n)/\(goneL t p n).length<=41:=by
 unfold walkE at h;split at h
 ·rename_i hh
  have hr:=qaQ.1 hh.1;have:=gone_walk (qaD hr.1).1 (k:=40) (j:=59) (by omega) hr.2 hh.2.1 h;exact⟨hr.1,hh.1,hh.2.1,hh.2.2,this.1,this.2⟩
 ·have h:(1:Int)=0:=congrArg Prod.snd h
  exact absurd h (by decide)
/-! ## As many as were gone over -/
theorem ov_at17 {t:Tp3}{fr tz:Int}{path:List St3}{at_ e x:Int}(hp: ∀s∈path,0<=s.edge/\lenAt t s<=1000000)(h:hasL (ovGo t fr tz path at_) e x=true): ∃pre s post,path=pre++s::post/\s.edge=e/\0<=x/\x<lenAt t s/\fr<at_+sumT t pre+lenAt t s:=by
 induction path generalizing at_ with
 |nil=>cases h
 |cons s r ih=>
  have h1:=hp s (List.mem_cons_self ..);rw[ovGo,hasL_app,Bool.or_eq_true,part_has h1.1 h1.2,Bool.and_eq_true,decide_eq_true_eq,decide_eq_true_eq]at h
  rcases h with⟨h2,h3⟩|h
  ·refine⟨[],s,r,rfl,h2.1,h2.2.1,h2.2.2,?_⟩
   show fr<at_+0+lenAt t s
   have h4:posN s (lenAt t s) x<lenAt t s:=by
    unfold posN;split<;>omega
   omega
  ·obtain⟨pre,u,post,g1,g2,g3,g4,g5⟩:=ih (fun v hv=>hp v (List.mem_cons_of_mem _ hv)) h
   refine⟨s::pre,u,post,by rw[g1];rfl,g2,g3,g4,?_⟩;show fr<at_+(lenAt t s+sumT t pre)+lenAt t u
   omega
theorem ov_full {t:Tp3}{path:List St3}{at_ fr tz x:Int}{s:St3}(hs:s∈path)(h0:0<=x)(hx:x<lenAt t s)(hf:fr<=at_)(hz:at_+sumT t path<=tz)(hp: ∀s∈path,0<=s.edge/\1<=lenAt t s/\lenAt t s<=1000000):hasL (ovGo t fr tz path at_) s.edge x=true:=by
 induction path generalizing at_ with
 |nil=>cases hs
 |cons u r ih=>
  have h1:=hp u (List.mem_cons_self ..);have hr: ∀s∈r,0<=s.edge/\1<=lenAt t s/\lenAt t s<=1000000:=fun v hv=>hp v (List.mem_cons_of_mem _ hv);have h2:0<=sumT t r:=(ov_sum (t:=t) (fr:=0) (tz:=0) (path:=r) (at_:=0) (Int.le_refl _) fun v hv=>(hr v hv).2.1).2;have hz2:at_+(lenAt t u+sumT t r)<=tz:=hz;rw[ovGo,hasL_app,Bool.or_eq_true,part_has h1.1 h1.2.2,Bool.and_eq_true,decide_eq_true_eq,decide_eq_true_eq]
  rcases List.mem_cons.1 hs with rfl|hs
  ·have h4:0<=posN s (lenAt t s) x/\posN s (lenAt t s) x<lenAt t s:=by
    unfold posN;split<;>omega
   exact .inl ⟨⟨rfl,h0,hx⟩,by omega,by omega⟩
  ·exact .inr (ih hs (by omega) (by omega) hr)
end
section
def qfK (t:Tp3)(id:Int):Int:=
 match qaR t id with
 |some r=>r.timer
 |none=>0
def gapR (t:Tp3)(id:Int):Int:=
 match qaR t id with
 |some r=>r.gap
 |none=>0
def qeK (path:List St3)(s:St3):List St3:=(path.dropWhile fun x=>!eqS x s).drop 1
def qes (t:Tp3)(b0:Int):List St3->List Lc3->List Sc3
 |_,[]=>[]
 |path,k::r=>⟨sumT t (path++pathR t k.route)-b0,qfK t k.route⟩::qes t b0 (path++pathR t k.route) r
def rawB (t:Tp3)(b0:Int)(g:List St3)(s:St3):List Lc3->List Sc3
 |[]=>[]
 |k::r=>⟨sumT t (g++qeK (pathR t k.route) s)-b0,qfK t k.route⟩::qes t b0 (g++qeK (pathR t k.route) s) r
def fullB (t:Tp3)(g:List St3)(s:St3):List Lc3->List St3
 |[]=>g
 |k::r=>(g++qeK (pathR t k.route) s)++wayC t r
def zeroS:Sc3:=⟨0,0⟩
def lessB (g:Int)(l:List Sc3):List Sc3:=l.dropLast++[⟨(l.getLastD zeroS).to_-g,(l.getLastD zeroS).timer⟩]
def badB (n g:Int)(l:List Sc3):Bool:=decide ((l.getLastD zeroS).to_-g<=n)||(match l.dropLast.getLast? with
 |none=>false
 |some q=>decide ((l.getLastD zeroS).to_-g<=q.to_))
def qaX (l:List Sc3):List Sc3:=
 match l with
 |[]=>[]
 |s::r=>if s.to_=0 then r else s::r
def gapC (t:Tp3)(c:List Lc3):Int:=
 match c.getLast? with
 |none=>0
 |some k=>gapR t k.route
def qdY (t:Tp3)(l:List Lc3)(train ref:Int)(rev:Bool)(n:Int):Ma3×Int:=
 if(locE t ref rev n).2≠0 then(noMa,(locE t ref rev n).2)
 else
  let s:=stepP (locE t ref rev n).1
  let c:=qc3 t l train s
  let p:=qbf t ⟨ref,rev,[],[],0⟩
  let g:=goneL t p n
  if c.isEmpty=true then(noMa,4)
  else if(decide (24<(fullB t g s c).length)||qa6 (fullB t g s c))=true then(noMa,2)
  else if badB n (gapC t c) (rawB t (intoP t p) g s c)=true then(noMa,141)
  else(⟨ref,rev,fullB t g s c,qaX (lessB (gapC t c) (rawB t (intoP t p) g s c)),gapC t c⟩,0)
/-! ## Lists -/
theorem wayC_app (t:Tp3)(a b:List Lc3):wayC t (a++b)=wayC t a++wayC t b:=List.flatMap_append
theorem wayC_one (t:Tp3)(k:Lc3):wayC t [k]=pathR t k.route:=by simp[wayC]
/-! ## Its way -/
theorem qf2 {t:Tp3}(hc:qax t=0){c:List Lc3}(h: ∀x∈c,(qaR t x.route).isSome=true): ∀a∈wayC t c,edgeB t a.edge=true:=by
 intro a ha;obtain⟨k,hk,hka⟩:=List.mem_flatMap.1 ha;obtain⟨q,_,q2,q3⟩:=qcJ hc (h k hk);rw[q2]at hka;exact(qej q3).2.2.2.1 a hka
/-! ## Its sections -/
theorem qfl (p:Int)(l:List Sc3)(x:Sc3):qbj p (l++[x])=x.to_:=by
 induction l generalizing p with
 |nil=>rfl
 |cons s r ih=>exact ih s.to_
theorem last_get {p:Int}{l:List Sc3}{q:Sc3}(h:l.getLast?=some q):qbj p l=q.to_:=by
 have hne:l≠[]:=by rintro rfl;cases h
 rw[List.getLast?_eq_some_getLast hne]at h;injection h with h
 rw[<-List.dropLast_concat_getLast hne,h];exact qfl _ _ _
theorem fromOne_cons (s:Sc3)(r:List Sc3):qaX (s::r)=if s.to_=0 then r else s::r:=rfl
end
section
open Go.RowKit
def qaS (s:Int):Int:=if s=0 then 1 else if s=1 then 10 else if s=2 then 100 else 0
def dmOf (n s:Int):Int×Int:=if qaS s=0 then(0,1)else if n<0\/32766<n then(0,7)else(n*qaS s,0)
def wholeOf (dm u:Int)(up:Bool):Int:=dm/u+if up=true/\dm %u≠0 then 1 else 0
def qaW (dm s:Int)(up:Bool):Int×Int:=
 if qaS s=0 then(0,1)else if dm<0\/1099511627776<dm then(0,7)else if 32766<wholeOf dm (qaS s) up then(0,7)else(wholeOf dm (qaS s) up,0)
def qdX (dm:Int):Int:=if(qaW dm 0 true).2=0 then 0 else if(qaW dm 1 true).2=0 then 1 else if(qaW dm 2 true).2=0 then 2 else -1
def pair (x:Int×Int):Value:= .tuple #[.int .i64 x.1,.int .i64 x.2]
theorem qcN (s:Int):qaS s=0\/qaS s=1\/qaS s=10\/qaS s=100:=by
 unfold qaS;split
 ·omega
 ·split
  ·omega
  ·split<;>omega
theorem unit_any (s:Int)(w:World):
  Calls Tryz.prog 28 #[.int .i64 s] w fun e w'=>e= .returned (.int .i64 (qaS s))/\w=w':=by
 by_cases h0:s=0
 ·subst h0
  rw[show qaS 0=1 from rfl];go_enter Tryz.func28,Tryz.ntmps28;go_wp2;go_ret
  exact⟨rfl,rfl⟩
 ·by_cases h1:s=1
  ·subst h1
   rw[show qaS 1=10 from rfl];go_enter Tryz.func28,Tryz.ntmps28;go_wp2;go_ret
   exact⟨rfl,rfl⟩
  ·by_cases h2:s=2
   ·subst h2
    rw[show qaS 2=100 from rfl];go_enter Tryz.func28,Tryz.ntmps28;go_wp2;go_ret
    exact⟨rfl,rfl⟩
   ·rw[show qaS s=0 by simp[qaS,h0,h1,h2]]
    go_enter Tryz.func28,Tryz.ntmps28;go_wp2;go_ret
    exact⟨rfl,rfl⟩
end
section
def dirB (rev:Bool):Int:=if rev=true then 0 else 1
def scT (n u:Int):Int:=(qaW n u false).1
def secsV (u:Int):Int->List Sc3->Option (List Int)
 |_,[]=>some []
 |b,s::r=>if scT s.to_ u-b<=0 then none else(secsV u (scT s.to_ u) r).map fun w=>(scT s.to_ u-b)::1::s.timer::0::w
def gapV (g:Int):List Int:=if g=0 then[0,0,0]else[0,1,g,0,0]
def qcU (m:Ma3)(u:Int):Option (List Int):=(secsV u 0 m.sects).map fun w=>dirB m.rev::u::0::0::((m.sects.length:Int)-1)::(w++gapV (scT m.gap u))
def qf6 (t:Tp3)(e:Int):Option Bl3:=t.bals.find? fun b=>b.edge==e
def qa9 (t:Tp3)(m:Ma3)(u:Int):Int->Bool->List St3->List Int×Int
 |_,_,[]=>([],0)
 |last,fst,s::r=>
  match qf6 t s.edge with
  |none=>([],1)
  |some b=>
   if(qaW ((onE t m.path ⟨b.edge,b.at_,s.rev⟩).1-last) u false).2≠0 then([],(qaW ((onE t m.path ⟨b.edge,b.at_,s.rev⟩).1-last) u false).2)
   else if(qa9 t m u (onE t m.path ⟨b.edge,b.at_,s.rev⟩).1 false r).2≠0 then([],(qa9 t m u (onE t m.path ⟨b.edge,b.at_,s.rev⟩).1 false r).2)
   else(scT ((onE t m.path ⟨b.edge,b.at_,s.rev⟩).1-last) u::1::b.id/16384::b.id %16384::dirB s.rev::2::12::((if fst=true then[(m.path.length:Int)-2]else[])++(qa9 t m u (onE t m.path ⟨b.edge,b.at_,s.rev⟩).1 false r).1),0)
def qbU (t:Tp3)(m:Ma3):List (Int×List Int)×Int:=
 if mayM t m=false then([],1)
 else if qdX (endM m+m.gap)<0 then([],7)
 else match qcU m (qdX (endM m+m.gap))with
  |none=>([],7)
  |some v=>
   if m.path.length=1 then([(15,v)],0)
   else if(qa9 t m (qdX (endM m+m.gap)) (qa1 t m) true (m.path.drop 1)).2≠0 then([],(qa9 t m (qdX (endM m+m.gap)) (qa1 t m) true (m.path.drop 1)).2)
   else([(15,v),(5,dirB m.rev::qdX (endM m+m.gap)::(qa9 t m (qdX (endM m+m.gap)) (qa1 t m) true (m.path.drop 1)).1)],0)
def qaf (u:Int):Nat->Int->List Int->List Sc3×List Int×Int
 |0,_,v=>([],v,0)
 |k+1,to_,v=>
  if v.getD 1 0≠1 then([],[],20)
  else if v.getD 2 0<1\/1000<v.getD 2 0\/v.getD 0 0=0 then([],[],20)
  else if(dmOf (v.getD 0 0) u).2≠0 then([],[],7)
  else
   let r:=qaf u k (to_+(dmOf (v.getD 0 0) u).1) (v.drop 4)
   if r.2.2≠0 then([],[],r.2.2)else(⟨to_+(dmOf (v.getD 0 0) u).1,v.getD 2 0⟩::r.1,r.2.1,0)
def gapE (v:List Int)(u:Int):Int×Int:=
 let v:=if v.getD 0 0=1 then v.drop 2 else v
 if v.getD 1 0≠1 then(0,0)else if(dmOf (v.getD 2 0) u).2≠0 then(0,7)else((dmOf (v.getD 2 0) u).1,0)
def qbL (t:Tp3)(path:List St3)(v:List Int):List St3×Int:=
 if v.getD 1 0≠1 then([],20)
 else match balF t (v.getD 2 0*16384+v.getD 3 0)with
  |none=>([],4)
  |some b=>
   if b.edge=(lastS path).edge then(path,0)
   else if mayT t (lastS path) ⟨b.edge,v.getD 4 0==0⟩=false then([],141)
   else if metS path [⟨b.edge,v.getD 4 0==0⟩]=true\/path.length=24 then([],2)
   else(path++[⟨b.edge,v.getD 4 0==0⟩],0)
def linkGo (t:Tp3):Nat->List St3->List Int->List St3×Int
 |0,path,_=>(path,0)
 |k+1,path,v=>if(qbL t path v).2≠0 then([],(qbL t path v).2)else linkGo t k (qbL t path v).1 (v.drop 7)
def qdN (t:Tp3)(path:List St3)(v:List Int):List St3×Int:=
 if(qbL t path (v.drop 2)).2≠0 then([],(qbL t path (v.drop 2)).2)else linkGo t (v.getD 9 0).toNat (qbL t path (v.drop 2)).1 (v.drop 10)
def readE (t:Tp3)(ok:Int×List Int->Bool)(ref:Int)(rev:Bool)(l:List (Int×List Int)):Ma3×Int:=
 if qax t≠0 then(noMa,1)
 else match balF t ref with
  |none=>(noMa,4)
  |some b=>
   match l with
   |[]=>(noMa,50)
   |(id,v)::_=>
    if id≠15\/l.all ok=false then(noMa,50)
    else if v.getD 0 0≠dirB rev then(noMa,20)
    else if 7<v.getD 4 0 then(noMa,2)
    else
     let s:=qaf (v.getD 1 0) (v.getD 4 0+1).toNat 0 (v.drop 5)
     if s.2.2≠0 then(noMa,s.2.2)
     else if(gapE s.2.1 (v.getD 1 0)).2≠0 then(noMa,(gapE s.2.1 (v.getD 1 0)).2)
     else
      let p:List St3×Int:=match l.find? fun q=>q.1==5 with
       |none=>([⟨b.edge,rev⟩],0)
       |some q=>qdN t [⟨b.edge,rev⟩] q.2
      if p.2≠0 then(noMa,p.2)
      else if mayM t ⟨ref,rev,p.1,s.1,(gapE s.2.1 (v.getD 1 0)).1⟩=true then(⟨ref,rev,p.1,s.1,(gapE s.2.1 (v.getD 1 0)).1⟩,0)else(noMa,7)
/-! ## Rounding -/
theorem qfW {t:Tp3}(h:qax t=0): ∀i,i<t.bals.length->balE t i=0:=by
 unfold qax at h;by_cases h1:longB t=true
 ·rw[if_pos h1]at h;exact absurd h (by decide)
 ·rw[if_neg h1]at h
  by_cases h2:qaF t=true
  ·rw[if_pos h2]at h
   by_cases h3:qaE (qbi t) t.joints.length=0
   ·rw[if_pos h3]at h
    by_cases h4:qaE (balE t) t.bals.length=0
    ·exact qf4.1 h4
    ·rw[if_neg h4]at h;exact absurd h h4
   ·rw[if_neg h3]at h;exact absurd h h3
  ·rw[if_neg h2]at h;exact absurd h (by decide)
theorem bal_find {t:Tp3}(hc:qax t=0){b:Bl3}(hb:b∈t.bals):0<=b.id/\b.id<=16777214/\edgeB t b.edge=true/\balF t b.id=some b:=by
 obtain⟨i,hi⟩:=List.getElem?_of_mem hb;have h0:=qfW hc i (List.getElem?_eq_some_iff.1 hi).1;unfold balE at h0;rw[hi]at h0;simp only at h0;split at h0
 ·rename_i h1
  simp only[Bool.and_eq_true,decide_eq_true_eq]at h1;refine⟨h1.1.1.1.1,h1.1.1.1.2,h1.1.1.2,qf3 hi (by simp) ?_⟩;by_cases ht:((t.bals.take i).any fun x=>x.id==b.id)=true
  ·rw[if_pos ht]at h0;exact absurd h0 (by decide)
  ·simpa using ht
 ·exact absurd h0 (by decide)
end
section
/-! ## Where a group lies -/
theorem bal_on17 {t:Tp3}(hc:qax t=0){ref:Int}{b:Bl3}(hb:balF t ref=some b)(rev:Bool):qa4 t ⟨b.edge,b.at_,rev⟩=true:=by
 obtain⟨i,hi⟩:=List.getElem?_of_mem (List.mem_of_find?_eq_some hb);have h0:=qfW hc i (List.getElem?_eq_some_iff.1 hi).1;unfold balE at h0;rw[hi]at h0;simp only at h0;split at h0
 ·rename_i h1
  simp only[Bool.and_eq_true,decide_eq_true_eq]at h1;exact qaQ.2 ⟨hc,qbu.2 ⟨h1.1.1.2,h1.1.2,h1.2⟩⟩
 ·exact absurd h0 (by decide)
theorem qb8 (t:Tp3)(ref:Int)(rev:Bool):locE t ref rev 0=if qax t=0 then(match balF t ref with|some b=>((⟨b.edge,b.at_,rev⟩,0):Ps3×Int)|none=>(zeroP,4))else(zeroP,1):=by
 unfold locE;split
 ·rename_i hc
  cases hb:balF t ref with
  |none=>rfl
  |some b=>
   dsimp only;have hr:=bal_on17 hc hb rev;unfold walkE;rw[if_pos ⟨hr,Int.le_refl _,by decide⟩,qdo (qdr (qaD hc).1 (qaQ.1 hr).2).1,qgc]
 ·rfl
theorem qcY {t:Tp3}{ref:Int}{rev:Bool}{x:Ps3}(h:locE t ref rev 0=(x,0)):qax t=0/\(balF t ref).isSome=true/\qa4 t x=true/\ ∀m:Ma3,m.ref=ref->m.rev=rev->qbf t m=x:=by
 rw[qb8]at h;split at h
 ·rename_i hc
  cases hb:balF t ref with
  |none=>rw[hb]at h;exact absurd (show(4:Int)=0 from congrArg Prod.snd h) (by decide)
  |some b=>
   rw[hb]at h;dsimp only at h;injection h with h _
   subst h;refine⟨hc,rfl,bal_on17 hc hb rev,fun m h1 h2=>?_⟩;unfold qbf;rw[h1,hb,h2]
 ·exact absurd (show(1:Int)=0 from congrArg Prod.snd h) (by decide)
theorem loc_none17 {t:Tp3}{ref:Int}{rev:Bool}(h:(locE t ref rev 0).2≠0):qax t≠0\/(balF t ref).isSome=false:=by
 rw[qb8]at h;split at h
 ·cases hb:balF t ref with
  |none=>exact .inr rfl
  |some b=>rw[hb]at h;exact absurd rfl h
 ·exact .inl (by assumption)
theorem loc_group17 {t:Tp3}{ref:Int}{rev:Bool}{n:Int}{x:Ps3}(h:locE t ref rev n=(x,0)): ∃p,locE t ref rev 0=(p,0)/\walkE t p n=(x,0)/\qbf t ⟨ref,rev,[],[],0⟩=p:=by
 rw[qb8];unfold locE at h;split at h
 ·rename_i hc
  rw[if_pos hc];unfold qbf;dsimp only
  cases hb:balF t ref with
  |none=>rw[hb]at h;exact absurd (show(4:Int)=0 from congrArg Prod.snd h) (by decide)
  |some b=>rw[hb]at h;exact⟨_,rfl,h,rfl⟩
 ·exact absurd (show(1:Int)=0 from congrArg Prod.snd h) (by decide)
theorem qd0 {t:Tp3}{p:Ps3}(h:qa4 t p=true):onE t [stepP p] p=(intoP t p,0):=by
 have hl:lenE t [stepP p]=0:=by
  unfold lenE;rw[if_neg (by simp),if_pos (by simp only[List.all_cons,List.all_nil,Bool.and_true];exact(qbu.1 (qaQ.1 h).2).1),if_pos (show wayB t [stepP p]=true from rfl)]
 unfold onE;rw[if_pos h,if_pos hl];have h1:onGo t p [stepP p] 0=some (intoP t p):=by
  rw[onGo,if_pos ((qaI _ _).2 rfl)];unfold intoP;rw[Int.zero_add]
 rw[h1]
theorem qcf {t:Tp3}(ht:qaF t=true){p:Ps3}(h:onB t p=true):0<=intoP t p/\intoP t p<=lenAt t (stepP p):=by
 have h1:=qdr ht h;have h2:=qbu.1 h;unfold intoP;rw[qb7];show 0<=qau t p.edge-qaA t p/\qau t p.edge-qaA t p<=qau t p.edge
 refine⟨?_,by omega⟩;unfold qaA;split<;>omega
theorem qcQ {t:Tp3}{m:Ma3}{x:Ps3}(hp:qbf t m=x)(hr:qa4 t x=true)(hl:lenE t m.path=0)(hf:qcC m.path (stepP x)=true):qa1 t m=intoP t x:=by
 unfold qa1 onE;rw[hp,if_pos hr,if_pos hl];unfold qcC at hf
 cases hq:m.path with
 |nil=>rw[hq]at hf;cases hf
 |cons y r=>
  rw[hq]at hf;dsimp only at hf⊢;rw[onGo,if_pos hf,(qaI _ _).1 hf];unfold intoP;show 0+lenAt t (stepP x)-qaA t x=_
  omega
/-! ## May -/
def risB:Int->List Sc3->Bool
 |_,[]=>true
 |p,s::r=>decide (p<s.to_) &&(decide (1<=s.timer) &&(decide (s.timer<=1000) &&risB s.to_ r))
theorem ris_cons {p:Int}{s:Sc3}{r:List Sc3}:risB p (s::r)=true↔p<s.to_/\1<=s.timer/\s.timer<=1000/\risB s.to_ r=true:=by
 rw[risB];simp only[Bool.and_eq_true,decide_eq_true_eq]
theorem ris_last {p:Int}{l:List Sc3}(h:risB p l=true):p<=qbj p l:=by
 induction l generalizing p with
 |nil=>exact Int.le_refl _
 |cons s r ih=>
  have h1:=ris_cons.1 h;have h2:=ih h1.2.2.2;show p<=qbj s.to_ r
  omega
theorem ris_of_secs {p:Int}{l:List Sc3}(h:secsB p l=true):risB p l=true:=by
 induction l generalizing p with
 |nil=>rfl
 |cons s r ih=>
  have h1:=qek.1 h;exact ris_cons.2 ⟨h1.1,h1.2.2.1,h1.2.2.2.1,ih h1.2.2.2.2⟩
theorem secs_of_ris {p:Int}{l:List Sc3}(h:risB p l=true)(hl:qbj p l<=100000000):secsB p l=true:=by
 induction l generalizing p with
 |nil=>rfl
 |cons s r ih=>
  have h1:=ris_cons.1 h;have h2:=ris_last h1.2.2.2;have h3:qbj s.to_ r<=100000000:=hl;exact qek.2 ⟨h1.1,by omega,h1.2.1,h1.2.2.1,ih h1.2.2.2 h3⟩
theorem may_no17 {t:Tp3}{m:Ma3}(h:(locE t m.ref m.rev 0).2≠0):mayM t m=false:=by
 cases hq:mayM t m with
 |false=>rfl
 |true=>
  have hm:=qb4.1 hq
  rcases loc_none17 h with h1|h1
  ·exact absurd hm.check h1
  ·rw[hm.bal]at h1;cases h1
def qdQ (t:Tp3)(path:List St3):Bool:=decide (lenE t path=0) &&(decide (path.length<=24) &&!qa6 path)
def qdI (l:List Sc3):Bool:=risB 0 l &&(decide (1<=l.length) &&decide (l.length<=8))
theorem may_own17 {t:Tp3}{m:Ma3}{x:Ps3}(h:locE t m.ref m.rev 0=(x,0)):mayM t m=((qdQ t m.path &&(qcC m.path (stepP x) &&qdI m.sects)) &&(decide (0<=m.gap) &&decide (m.gap<=sumT t m.path-intoP t x-endM m))):=by
 obtain⟨hc,hb,hr,hp⟩:=qcY h;have hp:=hp m rfl rfl;have ht:=(qaD hc).1;rw[Bool.eq_iff_iff,qb4];unfold qdQ qdI;simp only[Bool.and_eq_true,decide_eq_true_eq,Bool.not_eq_true']
 constructor
 ·intro hm
  have hf:=hm.first
  rw[hp]at hf;have hi:=qcQ hp hr hm.len hf;have h1:=hm.fits;exact⟨⟨⟨hm.len,hm.few,hm.once⟩,hf,ris_of_secs hm.secs,hm.one,hm.eight⟩,hm.gap0,by omega⟩
 ·rintro⟨⟨⟨h1,h2,h3⟩,h4,h5,h6,h7⟩,h8,h9⟩
  have hi:=qcQ hp hr h1 h4;have h0:=(qcf ht (qaQ.1 hr).2).1;have hs:=(qcw ht (qd8 h1).2.2.1).2;have hl:=ris_last h5;have he:endM m=qbj 0 m.sects:=rfl;refine⟨hc,hb,h2,h6,h7,h8,by omega,by rw[hp];exact h4,h3,h1,secs_of_ris h5 (by omega),by omega⟩
/-! ## The chain -/
def goesB (path:List St3)(e:Int):Bool:=path.any fun s=>s.edge==e
def qeW (a b:List St3):Bool:=a.any fun s=>goesB b s.edge
def qc6 (path steps:List St3):Bool:=
 match path with
 |[]=>false
 |x::_=>qbV steps x
def fitsO (t:Tp3)(s:St3)(out:List Lc3)(route:List St3):Bool:=
 if out.isEmpty=true then qbV route s else qc6 route (qaC t (lastS (wayC t out))) &&!qeW route (wayC t out)
theorem meets_met17 (a b:List St3):qeW a b=metS b a:=by
 rw[Bool.eq_iff_iff];unfold qeW goesB metS;simp only[List.any_eq_true,beq_iff_eq]
 constructor
 ·rintro⟨x,hx,y,hy,e⟩
  exact⟨y,hy,x,hx,e⟩
 ·rintro⟨y,hy,x,hx,e⟩
  exact⟨x,hx,y,hy,e⟩
theorem last_mem17 {l:List St3}(h:l≠[]):lastS l∈l:=by
 unfold lastS;rw[List.getLastD_eq_getLast?,List.getLast?_eq_some_getLast h];exact List.getLast_mem h
theorem qeO {t:Tp3}{l:List Lc3}{train:Int}{s:St3}{out:List Lc3}(h:ChainP t l train s out): ∀x∈out,(qaR t x.route).isSome=true:=fun x hx=>by
 obtain⟨i,hi⟩:=List.getElem?_of_mem hx;exact(h.at hi).rt
theorem fits_okC17 {t:Tp3}{l:List Lc3}{train:Int}{s:St3}{out:List Lc3}(hc:qax t=0)(h:ChainP t l train s out)(k:Lc3):okC t train s out k=(k.train==train &&fitsO t s out (pathR t k.route)):=by
 unfold okC fitsO
 cases hr:qaR t k.route with
 |none=>
  have hp:pathR t k.route=[]:=by unfold pathR;rw[hr]
  rw[hp];simp only[Option.isSome,Bool.and_false,Bool.false_and];split
  ·simp[qbV]
  ·simp[qc6]
 |some r=>
  obtain⟨r',h1,h2,h3⟩:=qcJ hc (id:=k.route) (by rw[hr];rfl);rw[hr]at h1;injection h1 with h1
  subst h1;have hro:=qej h3;simp only[Option.isSome,Bool.and_true]
  congr 1
  cases out with
  |nil=>simp
  |cons y q=>
   rw[if_neg (by simp),if_neg (by simp),meets_met17];have hsome:=qeO h;have hedge:=qf2 hc hsome;have hy:pathR t y.route≠[]:=by
    obtain⟨ry,g1,g2,g3⟩:=qcJ hc (hsome y (List.mem_cons_self ..));rw[g2];have:=(qej g3).2.1;intro e;rw[e]at this;exact absurd this (by simp)
   have hne:wayC t (y::q)≠[]:=by
    unfold wayC;rw[List.flatMap_cons];exact fun e=>hy (List.append_eq_nil_iff.1 e).1
   have hb:qc6 (pathR t k.route) (qaC t (lastS (wayC t (y::q))))=mayT t (lastS (wayC t (y::q))) (headS (pathR t k.route)):=by
    have hp:pathR t k.route≠[]:=by
     rw[h2];intro e;have:=hro.2.1;rw[e]at this;exact absurd this (by simp)
    cases hq:pathR t k.route with
    |nil=>exact absurd hq hp
    |cons a b=>
     show qbV (qaC t _) a=mayT t _ a
     rw[Bool.eq_iff_iff,qc5,qbw];have hea:edgeB t a.edge=true:=hro.2.2.2.1 a (by rw[<-h2,hq];exact List.mem_cons_self ..);exact⟨fun g=>g.2.2,fun g=>⟨hedge _ (last_mem17 hne),hea,g⟩⟩
   rw[hb]
   cases hm:metS (wayC t (y::q)) (pathR t k.route)with
   |true=>simp
   |false=>
    have hk:((y::q).any fun x=>eqK x k)=false:=any_eqK.2 fun hk=>by
     have hp:pathR t k.route≠[]:=by
      rw[h2];intro e;have:=hro.2.1;rw[e]at this;exact absurd this (by simp)
     obtain⟨a,ha⟩:=List.exists_mem_of_ne_nil _ hp;exact met_no.1 hm a (List.mem_flatMap.2 ⟨k,hk,ha⟩) a ha rfl
    rw[hk];simp
theorem find_own17 {t:Tp3}{l:List Lc3}{train:Int}{s:St3}{out:List Lc3}(hc:qax t=0)(h:ChainP t l train s out):l.find? (okC t train s out)=(ofL l train).find? fun k=>fitsO t s out (pathR t k.route):=by
 have e1:okC t train s out=fun k=>k.train==train &&fitsO t s out (pathR t k.route):=funext (fits_okC17 hc h);rw[e1];unfold ofL;rw[List.find?_filter]
 congr 1
 funext k
 rw[Bool.eq_iff_iff];simp
theorem qfO {t:Tp3}{l:List Lc3}{train:Int}{s:St3}{out:List Lc3}{x:Lc3}(h:ChainP t l train s out)(hx:l.find? (okC t train s out)=some x):ChainP t l train s (out++[x]):=h.snoc (okC_step (List.mem_of_find?_eq_some hx) (by simpa using List.find?_some hx))
/-! ## The way walked -/
theorem gone_next17 {t:Tp3}(ht:qaF t=true){p x:Ps3}{n:Int}{G pre:List St3}{s:St3}{k:Nat}{left:Int}(hG:GoneP t p x n G)(h:pre++qbm t k s left=G)(hs:sumT t pre+lenAt t s+left=intoP t p+n)(h0:0<left):
  ∃y j,k=j+1/\qaC t s=[y]/\(pre++[s])++qbm t j y (left-lenAt t y)=G/\sumT t (pre++[s])+lenAt t y+(left-lenAt t y)=intoP t p+n:=by
 have hstop:qbm t k s left≠[s]:=fun e=>by
  rw[e]at h;obtain⟨pre',h1,h2⟩:=hG.split;rw[<-h]at h1;obtain⟨e1,e2⟩:=List.append_inj' h1 rfl;injection e2 with e2 _
  subst e1;have h3:=qcf ht hG.on;rw[<-e2]at h3;omega
 cases k with
 |zero=>exact absurd rfl hstop
 |succ j=>
  rw[qbm,if_pos h0]at h hstop;split at h
  ·rename_i y hy
   refine⟨y,j,rfl,hy,by rw[List.append_assoc];exact h,?_⟩;rw[qfI];show sumT t pre+(lenAt t s+0)+_+_=_
   omega
  ·rename_i hno
   split at hstop
   ·rename_i y hy
    exact absurd hy (hno y)
   ·exact absurd rfl hstop
theorem gone_end17 {t:Tp3}{s:St3}{k:Nat}{left:Int}(h: ¬0<left):qbm t k s left=[s]:=by
 cases k with
 |zero=>rfl
 |succ j=>rw[qbm,if_neg h]
/-! ## The authority -/
def behS (path:List St3)(s:St3):List St3:=if qbV path s=true then qeK path s else path
def qb0 (t:Tp3)(b0:Int)(s:St3):List St3->List Lc3->List Sc3
 |_,[]=>[]
 |path,k::r=>⟨sumT t (path++behS (pathR t k.route) s)-b0,qfK t k.route⟩::qb0 t b0 s (path++behS (pathR t k.route) s) r
def authP (t:Tp3)(s:St3)(c:List Lc3):List St3:=c.flatMap fun k=>behS (pathR t k.route) s
theorem qdJ {path:List St3}{s:St3}(h:s∈path):behS path s=qeK path s:=by
 unfold behS;rw[if_pos ((qc5 _ _).2 h)]
theorem qfc {path:List St3}{s:St3}(h:s∉path):behS path s=path:=by
 unfold behS;rw[if_neg (fun e=>h ((qc5 _ _).1 e))]
theorem beh_at17 {path:List St3}{s:St3}{i:Nat}(hi:path[i]?=some s)(hno: ∀(j:Nat) (y:St3),j<i->path[j]?=some y->eqS y s=false):behS path s=path.drop (i+1):=by
 rw[qdJ (List.mem_of_getElem? hi)];unfold qeK
 induction path generalizing i with
 |nil=>cases hi
 |cons x r ih=>
  cases i with
  |zero=>
   injection hi with hi
   subst hi;rw[List.dropWhile_cons,if_neg (by rw[(qaI _ _).2 rfl];decide)]
  |succ j=>
   rw[List.dropWhile_cons,if_pos (by rw[hno 0 x (by omega) rfl];decide)];exact ih (i:=j) hi fun m y hm hy=>hno (m+1) y (by omega) hy
theorem beh_none17 {path:List St3}{s:St3}(hno: ∀(j:Nat) (y:St3),path[j]?=some y->eqS y s=false):behS path s=path:=by
 refine qfc fun h=>?_;obtain⟨i,hi⟩:=List.getElem?_of_mem h;have:=hno i s hi;rw[(qaI _ _).2 rfl]at this
 cases this
theorem auth_rest17 {t:Tp3}{b0:Int}{s:St3}{r:List Lc3}{g:List St3}(h: ∀k∈r,s∉pathR t k.route):qb0 t b0 s g r=qes t b0 g r/\authP t s r=wayC t r:=by
 induction r generalizing g with
 |nil=>exact⟨rfl,rfl⟩
 |cons k r ih=>
  have h1:=qfc (h k (List.mem_cons_self ..));obtain⟨h2,h3⟩:=ih (g:=g++pathR t k.route) fun y hy=>h y (List.mem_cons_of_mem _ hy);unfold authP wayC at h3⊢;rw[qb0,qes,List.flatMap_cons,List.flatMap_cons,h1,h2,h3];exact⟨rfl,rfl⟩
theorem auth_raw17 {t:Tp3}{l:List Lc3}{train:Int}{s:St3}{c:List Lc3}(h:ChainP t l train s c)(b0:Int)(g:List St3)(hc:c≠[]):qb0 t b0 s g c=rawB t b0 g s c/\g++authP t s c=fullB t g s c:=by
 cases c with
 |nil=>exact absurd rfl hc
 |cons k r=>
  have hk:s∈pathR t k.route:=(h.at (i:=0) (x:=k) rfl).first rfl
  have hr: ∀y∈r,s∉pathR t y.route:=fun y hy hm=>by
   obtain⟨i,hi⟩:=List.getElem?_of_mem hy;have h1:=(h.at (i:=i+1) (x:=y) (by simpa using hi)).apart s (List.mem_flatMap.2 ⟨k,by rw[List.take_succ_cons];exact List.mem_cons_self ..,hk⟩) s hm;exact h1 rfl
  obtain⟨h1,h2⟩:=auth_rest17 (b0:=b0) (g:=g++behS (pathR t k.route) s) hr;rw[qb0,rawB,fullB,h1,qdJ hk];refine⟨rfl,?_⟩;unfold authP at h2⊢;rw[List.flatMap_cons,h2,qdJ hk,List.append_assoc]
theorem auth_snoc17 {t:Tp3}{b0:Int}{s:St3}{k:Lc3}{c:List Lc3}{g:List St3}:qb0 t b0 s g (c++[k])=qb0 t b0 s g c++[⟨sumT t (g++authP t s (c++[k]))-b0,qfK t k.route⟩]/\authP t s (c++[k])=authP t s c++behS (pathR t k.route) s:=by
 have h2:authP t s (c++[k])=authP t s c++behS (pathR t k.route) s:=by
  unfold authP;rw[List.flatMap_append];simp
 refine⟨?_,h2⟩;rw[h2];clear h2
 induction c generalizing g with
 |nil=>rfl
 |cons x r ih=>
  rw[List.cons_append,qb0,qb0,ih];unfold authP;rw[List.flatMap_cons,List.cons_append];simp only[List.append_assoc]
end
section
open Go.RowKit
theorem qbJ {α:Type}{f:α->List Value}{k:Nat}(hf: ∀x,(f x).length=k)(l:List α):(l.flatMap f).length=l.length*k:=by
 induction l with
 |nil=>simp
 |cons x r ih=>rw[List.flatMap_cons,List.length_append,hf,ih,List.length_cons,Nat.succ_mul,Nat.add_comm]
theorem flat_at {α:Type}{f:α->List Value}{k:Nat}(hf: ∀x,(f x).length=k){l:List α}{j:Nat}{x:α}(hx:l[j]?=some x){i:Nat}(hi:i<k):(l.flatMap f)[j*k+i]?=(f x)[i]?:=by
 induction l generalizing j with
 |nil=>simp at hx
 |cons y r ih=>
  rw[List.flatMap_cons]
  cases j with
  |zero=>
   simp at hx;subst hx;rw[List.getElem?_append_left (by rw[hf];omega)];simp
  |succ m=>
   have e:(m+1)*k=m*k+k:=Nat.succ_mul m k;rw[List.getElem?_append_right (by rw[hf];omega),hf,show(m+1)*k+i-k=m*k+i by omega];exact ih (by simpa using hx)
def SlO {α:Type}(f:α->List Value)(k:Nat)(w:World)(A:Option Addr)(n c:Nat)(l:List α):Prop:=l.length=n/\Sl w k A n c (l.flatMap f)
theorem SlO.under {α:Type}{f:α->List Value}{k:Nat}{w w':World}{A:Option Addr}{n c:Nat}{l:List α}(h:SlO f k w A n c l)(hb:Below w.heap.size w w'):SlO f k w' A n c l:=⟨h.1,h.2.under hb⟩
theorem SlO.at_ {α:Type}{f:α->List Value}{k:Nat}{w:World}{A:Option Addr}{n c:Nat}{l:List α}(h:SlO f k w A n c l)(hf: ∀x,(f x).length=k)(hk:0<k){j:Nat}{x:α}(hx:l[j]?=some x):
  ∃b off,A=some ⟨b,off,none⟩/\ ∀i u,(f x)[i]?=some u->w.cell? ⟨b,off+j*k+i,none⟩=some u:=by
 obtain⟨u0,hu0⟩: ∃u,(f x)[0]?=some u:=⟨_,List.getElem?_eq_getElem (by rw[hf];exact hk)⟩
 obtain⟨b,off,e,_⟩:=h.2.at_ (j:=j*k+0) (u:=u0) (by rw[flat_at hf hx hk];exact hu0);refine⟨b,off,e,fun i u hu=>?_⟩;have hi:i<k:=by rw[<-hf x];exact(List.getElem?_eq_some_iff.1 hu).1
 obtain⟨b',off',e',hc⟩:=h.2.at_ (j:=j*k+i) (u:=u) (by rw[flat_at hf hx hi];exact hu);rw[e]at e';injection e' with e'
 injection e' with e1 e2 _
 subst e1 e2;rw[Nat.add_assoc];exact hc
theorem SlO.nil {α:Type}(f:α->List Value)(k:Nat)(w:World):SlO f k w none 0 0 []:=⟨rfl,qcv _ _⟩
def inC (x:Int):List Value:=[.int .i64 x]
def stC (s:St3):List Value:=[.int .i64 s.edge,.bool s.rev]
def jtC (j:Jt3):List Value:=[.int .i64 j.a.1,.int .i64 j.a.2,.int .i64 j.b.1,.int .i64 j.b.2]
def blC (b:Bl3):List Value:=[.int .i64 b.id,.int .i64 b.edge,.int .i64 b.at_]
def rtC (p:Rt3×Value):List Value:=[.int .i64 p.1.id,p.2,.int .i64 p.1.gap,.int .i64 p.1.timer]
def PathV (w:World)(v:Value)(path:List St3):Prop:= ∃A c,v= .slice A path.length c/\SlO stC 2 w A path.length c path
theorem PathV.under {w w':World}{v:Value}{path:List St3}(h:PathV w v path)(hb:Below w.heap.size w w'):PathV w' v path:=by
 obtain⟨A,c,e,hs⟩:=h;exact⟨A,c,e,hs.under hb⟩
def CapV (v:Value):Prop:= ∀A n c,v= .slice A n c->n<=c
def RtsR (w:World)(A:Option Addr)(n c:Nat)(rs:List Rt3):Prop:= ∃l:List (Rt3×Value),l.map (·.1)=rs/\SlO rtC 4 w A n c l/\ ∀p∈l,PathV w p.2 p.1.path/\CapV p.2
theorem RtsR.under {w w':World}{A:Option Addr}{n c:Nat}{rs:List Rt3}(h:RtsR w A n c rs)(hb:Below w.heap.size w w'):RtsR w' A n c rs:=by
 obtain⟨l,h1,h2,h3⟩:=h;exact⟨l,h1,h2.under hb,fun p hp=>⟨(h3 p hp).1.under hb,(h3 p hp).2⟩⟩
theorem RtsR.cap_at {w:World}{A:Option Addr}{n c:Nat}{rs:List Rt3}(h:RtsR w A n c rs){j:Nat}{r:Rt3}(hr:rs[j]?=some r):
  ∃b off PA pc,A=some ⟨b,off,none⟩/\SlO stC 2 w PA r.path.length pc r.path/\w.cell? ⟨b,off+j*4,none⟩=some (.int .i64 r.id)/\w.cell? ⟨b,off+j*4+1,none⟩=some (.slice PA r.path.length pc)/\w.cell? ⟨b,off+j*4+2,none⟩=some (.int .i64 r.gap)/\w.cell? ⟨b,off+j*4+3,none⟩=some (.int .i64 r.timer)/\r.path.length<=pc:=by
 obtain⟨l,rfl,h2,h3⟩:=h;rw[List.getElem?_map]at hr;obtain⟨p,hp,rfl⟩:=Option.map_eq_some_iff.1 hr;obtain⟨b,off,e,hc⟩:=h2.at_ (fun _=>rfl) (by decide) hp;obtain⟨⟨PA,pc,ev,hs⟩,hcv⟩:=h3 p (List.mem_of_getElem? hp);have hcap:=hcv _ _ _ ev;have h1:=hc 1 p.2 rfl;rw[ev]at h1;exact⟨b,off,PA,pc,e,hs,hc 0 _ rfl,h1,hc 2 _ rfl,hc 3 _ rfl,hcap⟩
theorem RtsR.at_ {w:World}{A:Option Addr}{n c:Nat}{rs:List Rt3}(h:RtsR w A n c rs){j:Nat}{r:Rt3}(hr:rs[j]?=some r):
  ∃b off PA pc,A=some ⟨b,off,none⟩/\SlO stC 2 w PA r.path.length pc r.path/\w.cell? ⟨b,off+j*4,none⟩=some (.int .i64 r.id)/\w.cell? ⟨b,off+j*4+1,none⟩=some (.slice PA r.path.length pc)/\w.cell? ⟨b,off+j*4+2,none⟩=some (.int .i64 r.gap)/\w.cell? ⟨b,off+j*4+3,none⟩=some (.int .i64 r.timer):=by
 obtain⟨b,off,PA,pc,h1,h2,h3,h4,h5,h6,_⟩:=h.cap_at hr;exact⟨b,off,PA,pc,h1,h2,h3,h4,h5,h6⟩
structure TpA where
 ae:Option Addr
 ce:Nat
 aj:Option Addr
 cj:Nat
 ab:Option Addr
 cb:Nat
 ar:Option Addr
 cr:Nat
def tpC (t:Tp3)(a:TpA):Array Value:=#[.slice a.ae t.edges.length a.ce,.slice a.aj t.joints.length a.cj,.slice a.ab t.bals.length a.cb,.slice a.ar t.routes.length a.cr]
structure TopR (w:World) (t:Tp3) (a:TpA):Prop where
 e:SlO inC 1 w a.ae t.edges.length a.ce t.edges
 j:SlO jtC 4 w a.aj t.joints.length a.cj t.joints
 b:SlO blC 3 w a.ab t.bals.length a.cb t.bals
 r:RtsR w a.ar t.routes.length a.cr t.routes
theorem TopR.under {w w':World}{t:Tp3}{a:TpA}(h:TopR w t a)(hb:Below w.heap.size w w'):TopR w' t a:=⟨h.e.under hb,h.j.under hb,h.b.under hb,h.r.under hb⟩
theorem qav {t:Tp3}(h:qaJ t=true):t.edges.length<=100/\t.joints.length<=100/\t.bals.length<=100/\t.routes.length<=100/\ ∀r∈t.routes,r.path.length<=100:=by
 unfold qaJ at h;simp only[Bool.and_eq_true,decide_eq_true_eq,List.all_eq_true]at h;exact h
theorem SlO.edge {w:World}{A:Option Addr}{n c:Nat}{l:List Int}(h:SlO inC 1 w A n c l){j:Nat}(hj:j<n): ∃b off,A=some ⟨b,off,none⟩/\w.cell? ⟨b,off+j,none⟩=some (.int .i64 (l.getD j 0)):=by
 have hl:j<l.length:=by rw[h.1];exact hj
 obtain⟨b,off,e,hc⟩:=h.at_ (fun _=>rfl) (by decide) (List.getElem?_eq_getElem hl);refine⟨b,off,e,?_⟩;rw[List.getD_eq_getElem?_getD,List.getElem?_eq_getElem hl];have:=hc 0 _ rfl
 simpa using this
theorem SlO.joint {w:World}{A:Option Addr}{n c:Nat}{l:List Jt3}(h:SlO jtC 4 w A n c l){j:Nat}{x:Jt3}(hx:l[j]?=some x):
  ∃b off,A=some ⟨b,off,none⟩/\w.cell? ⟨b,off+j*4,none⟩=some (.int .i64 x.a.1)/\w.cell? ⟨b,off+j*4+1,none⟩=some (.int .i64 x.a.2)/\w.cell? ⟨b,off+j*4+2,none⟩=some (.int .i64 x.b.1)/\w.cell? ⟨b,off+j*4+3,none⟩=some (.int .i64 x.b.2):=by
 obtain⟨b,off,e,hc⟩:=h.at_ (fun _=>rfl) (by decide) hx;exact⟨b,off,e,hc 0 _ rfl,hc 1 _ rfl,hc 2 _ rfl,hc 3 _ rfl⟩
theorem SlO.bal {w:World}{A:Option Addr}{n c:Nat}{l:List Bl3}(h:SlO blC 3 w A n c l){j:Nat}{x:Bl3}(hx:l[j]?=some x):
  ∃b off,A=some ⟨b,off,none⟩/\w.cell? ⟨b,off+j*3,none⟩=some (.int .i64 x.id)/\w.cell? ⟨b,off+j*3+1,none⟩=some (.int .i64 x.edge)/\w.cell? ⟨b,off+j*3+2,none⟩=some (.int .i64 x.at_):=by
 obtain⟨b,off,e,hc⟩:=h.at_ (fun _=>rfl) (by decide) hx;exact⟨b,off,e,hc 0 _ rfl,hc 1 _ rfl,hc 2 _ rfl⟩
theorem SlO.step {w:World}{A:Option Addr}{n c:Nat}{l:List St3}(h:SlO stC 2 w A n c l){j:Nat}{x:St3}(hx:l[j]?=some x):
  ∃b off,A=some ⟨b,off,none⟩/\w.cell? ⟨b,off+j*2,none⟩=some (.int .i64 x.edge)/\w.cell? ⟨b,off+j*2+1,none⟩=some (.bool x.rev):=by
 obtain⟨b,off,e,hc⟩:=h.at_ (fun _=>rfl) (by decide) hx;exact⟨b,off,e,hc 0 _ rfl,hc 1 _ rfl⟩
end
section
open Go.RowKit
open Go.Great
theorem qbl {P:Program}(w:World)(d:Nat)(xs ys:Array Value)(f:Field)(fs:List Field)(a b:Value)(hn:f.name≠ "_")(ha:(part f.type xs f.offset).run P w= .ok a w)(hb:(part f.type ys f.offset).run P w= .ok b w)(he:(Op.equalIn d f.type a b).run P w= .ok false w):
  (Op.eqFields d xs ys (f::fs)).run P w= .ok false w:=by
 simp[Op.eqFields,hn,ha,hb,he]
def endA (a:Int×Int):Array Value:=#[.int .i64 a.1,.int .i64 a.2]
def stA13 (s:St3):Array Value:=#[.int .i64 s.edge,.bool s.rev]
def blA (b:Bl3):Array Value:=#[.int .i64 b.id,.int .i64 b.edge,.int .i64 b.at_]
theorem qdv (a b:Int×Int)(W:World):(Op.equalIn 10000 147 (.agg (endA a)) (.agg (endA b))).run Tryz.prog W= .ok (eqE a b) W:=by
 rw[show(10000:Nat)=9999+1 from rfl,run_equalIn_struct W 9999 147 _ _ (by kernel_rfl) (by kernel_rfl)];simp only[Program.fieldsOf,Tryz.underlying147];unfold eqE endA;by_cases h0:a.1=b.1;rotate_left
 ·refine(qbl W 9999 (endA a) (endA b) _ _ (.int .i64 a.1) (.int .i64 b.1) (by decide) (qam W 3 (endA a) 0 (.int .i64 a.1) (by kernel_rfl) rfl) (qam W 3 (endA b) 0 (.int .i64 b.1) (by kernel_rfl) rfl) (by rw[show(9999:Nat)=9998+1 from rfl,run_equalIn_int W 9998 3 .i64 .i64 _ _ Tryz.underlying3];simp[h0])).trans ?_
  have e:(a.1==b.1)=false:=by simp[h0]
  simp[e]
 refine(qaV W 9999 (endA a) (endA b) _ _ (.int .i64 a.1) (.int .i64 b.1) (by decide) (qam W 3 (endA a) 0 (.int .i64 a.1) (by kernel_rfl) rfl) (qam W 3 (endA b) 0 (.int .i64 b.1) (by kernel_rfl) rfl) (by rw[show(9999:Nat)=9998+1 from rfl,run_equalIn_int W 9998 3 .i64 .i64 _ _ Tryz.underlying3];simp[h0])).trans ?_;by_cases h1:a.2=b.2;rotate_left
 ·refine(qbl W 9999 (endA a) (endA b) _ _ (.int .i64 a.2) (.int .i64 b.2) (by decide) (qam W 3 (endA a) 1 (.int .i64 a.2) (by kernel_rfl) rfl) (qam W 3 (endA b) 1 (.int .i64 b.2) (by kernel_rfl) rfl) (by rw[show(9999:Nat)=9998+1 from rfl,run_equalIn_int W 9998 3 .i64 .i64 _ _ Tryz.underlying3];simp[h1])).trans ?_
  have e:(a.2==b.2)=false:=by simp[h1]
  simp[e]
 refine(qaV W 9999 (endA a) (endA b) _ _ (.int .i64 a.2) (.int .i64 b.2) (by decide) (qam W 3 (endA a) 1 (.int .i64 a.2) (by kernel_rfl) rfl) (qam W 3 (endA b) 1 (.int .i64 b.2) (by kernel_rfl) rfl) (by rw[show(9999:Nat)=9998+1 from rfl,run_equalIn_int W 9998 3 .i64 .i64 _ _ Tryz.underlying3];simp[h1])).trans ?_;refine(qbX W 9999 _ _).trans ?_;simp[h0,h1]
theorem qcH:Tryz.prog.eqGuardType Tryz.prog.depth 30=false:=by kernel_rfl
theorem eq_st13 (a b:St3)(W:World):(Op.equalIn 10000 30 (.agg (stA13 a)) (.agg (stA13 b))).run Tryz.prog W= .ok (eqS a b) W:=by
 rw[show(10000:Nat)=9999+1 from rfl,run_equalIn_struct W 9999 30 _ _ (by kernel_rfl) (by kernel_rfl)];simp only[Program.fieldsOf,Tryz.underlying30];unfold eqS stA13;by_cases h0:a.edge=b.edge;rotate_left
 ·refine(qbl W 9999 (stA13 a) (stA13 b) _ _ (.int .i64 a.edge) (.int .i64 b.edge) (by decide) (qam W 3 (stA13 a) 0 (.int .i64 a.edge) (by kernel_rfl) rfl) (qam W 3 (stA13 b) 0 (.int .i64 b.edge) (by kernel_rfl) rfl) (by rw[show(9999:Nat)=9998+1 from rfl,run_equalIn_int W 9998 3 .i64 .i64 _ _ Tryz.underlying3];simp[h0])).trans ?_
  have e:(a.edge==b.edge)=false:=by simp[h0]
  simp[e]
 refine(qaV W 9999 (stA13 a) (stA13 b) _ _ (.int .i64 a.edge) (.int .i64 b.edge) (by decide) (qam W 3 (stA13 a) 0 (.int .i64 a.edge) (by kernel_rfl) rfl) (qam W 3 (stA13 b) 0 (.int .i64 b.edge) (by kernel_rfl) rfl) (by rw[show(9999:Nat)=9998+1 from rfl,run_equalIn_int W 9998 3 .i64 .i64 _ _ Tryz.underlying3];simp[h0])).trans ?_;by_cases h1:a.rev=b.rev;rotate_left
 ·refine(qbl W 9999 (stA13 a) (stA13 b) _ _ (.bool a.rev) (.bool b.rev) (by decide) (qam W 4 (stA13 a) 1 (.bool a.rev) (by kernel_rfl) rfl) (qam W 4 (stA13 b) 1 (.bool b.rev) (by kernel_rfl) rfl) (by rw[show(9999:Nat)=9998+1 from rfl,run_equalIn_bool' W 9998 4 _ _ Tryz.underlying4];simp[h1])).trans ?_
  have e:(a.rev==b.rev)=false:=by simp[h1]
  simp[e]
 refine(qaV W 9999 (stA13 a) (stA13 b) _ _ (.bool a.rev) (.bool b.rev) (by decide) (qam W 4 (stA13 a) 1 (.bool a.rev) (by kernel_rfl) rfl) (qam W 4 (stA13 b) 1 (.bool b.rev) (by kernel_rfl) rfl) (by rw[show(9999:Nat)=9998+1 from rfl,run_equalIn_bool' W 9998 4 _ _ Tryz.underlying4];simp[h1])).trans ?_;refine(qbX W 9999 _ _).trans ?_;simp[h0,h1]
theorem eql_st13 (a b:St3)(W:World):(binOp .eql 30 (.agg (stA13 a)) (.agg (stA13 b))).run Tryz.prog W= .ok (.bool (eqS a b)) W:=by
 rw[run_eql_struct,eq_st13];rfl
theorem neq_st13 (a b:St3)(W:World):(binOp .neq 30 (.agg (stA13 a)) (.agg (stA13 b))).run Tryz.prog W= .ok (.bool (!eqS a b)) W:=by
 rw[run_neq_struct,eq_st13];rfl
end
section
open Go.RowKit
open Go.Great
theorem qdl (t:Tp3)(a:TpA)(n:Int)(w:World):
  Calls Tryz.prog 113 #[.agg (tpC t a),.int .i64 n] w fun e w'=>e= .returned (.bool (edgeB t n))/\Below w.heap.size w w':=by
 obtain⟨wa,hwa,hbwa,HWA,HBWA,h0⟩:=bx1Z w 27 (tpC t a);have c0:wa.cell? ⟨w.heap.size,0,none⟩=some (.slice a.ae t.edges.length a.ce):=(h0).cell 0;unfold edgeB;clear hwa hbwa h0;unfold tpC at*;generalize t.edges.length=m at*;by_cases h1:0<=n
 ·by_cases h2:n<m
  ·rw[decide_eq_true h1,decide_eq_true h2]
   go_enter Tryz.func113,Tryz.ntmps113;go_upto_region 1 with fail;rw[HWA.out];clear HWA;go_wp2;go_ret
   exact⟨rfl,HBWA.out⟩
  ·rw[decide_eq_true h1,decide_eq_false h2]
   go_enter Tryz.func113,Tryz.ntmps113;go_upto_region 1 with fail;rw[HWA.out];clear HWA;go_wp2;go_ret
   exact⟨rfl,HBWA.out⟩
 ·rw[decide_eq_false h1,Bool.false_and]
  go_enter Tryz.func113,Tryz.ntmps113;go_upto_region 1 with fail;rw[HWA.out];clear HWA;go_wp2;go_ret
  exact⟨rfl,HBWA.out⟩
theorem rend_any (t:Tp3)(a:TpA)(x:Int×Int)(w:World):
  Calls Tryz.prog 111 #[.agg (tpC t a),.agg (endA x)] w fun e w'=>e= .returned (.bool (endB t x))/\Below w.heap.size w w':=by
 obtain⟨wa,hwa,hbwa,HWA,HBWA,h0,h1⟩:=bx2Z w 27 (tpC t a) 147 (endA x);have c0:wa.cell? ⟨w.heap.size+1,0,none⟩=some (.int .i64 x.1):=h1.cell 0;have H:=zq (qdl t a x.1 wa);have HP:=zq h0;have HC:=zH h1;unfold endB;clear hwa hbwa h0 h1;generalize edgeB t x.1=b at*;obtain⟨x1,x2⟩:=x;unfold endA at*;dsimp only at*
 cases b with
 |false=>
  rw[Bool.false_and];go_enter Tryz.func111,Tryz.ntmps111;go_upto_region 1 with fail;rw[HWA.out];clear HWA;go_wp2_with (with_reducible refine ldZ 6 HP.out ?_);refine H.out.mono ?_;rintro e w1 ⟨rfl,hb1⟩;have c1:w1.cell? ⟨w.heap.size+1,1,none⟩=some (.int .i64 x2):=(HC.out w1 hb1).cell 1;have HB1:=tB HBWA hb1;clear hb1 HC H HP HBWA c0;go_wp2;go_ret
  exact⟨rfl,HB1.out⟩
 |true=>
  rw[Bool.true_and];by_cases h0:x2=0
  ·subst h0
   go_enter Tryz.func111,Tryz.ntmps111;go_upto_region 1 with fail;rw[HWA.out];clear HWA;go_wp2_with (with_reducible refine ldZ 6 HP.out ?_);refine H.out.mono ?_;rintro e w1 ⟨rfl,hb1⟩;have c1:w1.cell? ⟨w.heap.size+1,1,none⟩=some (.int .i64 0):=(HC.out w1 hb1).cell 1;have HB1:=tB HBWA hb1;clear hb1 HC H HP HBWA c0;go_wp2;go_ret
   exact⟨by simp,HB1.out⟩
  have e0:(x2==0)=false:=by simp[h0]
  rw[e0,Bool.false_or];clear h0;by_cases h1:x2=1
  ·subst h1
   go_enter Tryz.func111,Tryz.ntmps111;go_upto_region 1 with fail;rw[HWA.out];clear HWA;go_wp2_with (with_reducible refine ldZ 6 HP.out ?_);refine H.out.mono ?_;rintro e w1 ⟨rfl,hb1⟩;have c1:w1.cell? ⟨w.heap.size+1,1,none⟩=some (.int .i64 1):=(HC.out w1 hb1).cell 1;have HB1:=tB HBWA hb1;clear hb1 HC H HP HBWA c0;go_wp2;go_ret
   exact⟨by simp,HB1.out⟩
  have e1:(x2==1)=false:=by simp[h1]
  rw[e1];clear h1;go_enter Tryz.func111,Tryz.ntmps111;go_upto_region 1 with fail;rw[HWA.out];clear HWA;go_wp2_with (with_reducible refine ldZ 6 HP.out ?_);refine H.out.mono ?_;rintro e w1 ⟨rfl,hb1⟩;have c1:w1.cell? ⟨w.heap.size+1,1,none⟩=some (.int .i64 x2):=(HC.out w1 hb1).cell 1;have HB1:=tB HBWA hb1;clear hb1 HC H HP HBWA c0;go_wp2;go_ret
  exact⟨by simp,HB1.out⟩
theorem rin_any (s:St3)(w:World):
  Calls Tryz.prog 116 #[.agg (stA13 s)] w fun e w'=>e= .returned (.agg (endA (inE s)))/\Below w.heap.size w w':=by
 obtain⟨wa,hwa,hbwa,HWA,HBWA,h0,h1⟩:=bx2Z w 30 (stA13 s) 147 #[.int .i64 0,.int .i64 0];have c0:wa.cell? ⟨w.heap.size,0,none⟩=some (.int .i64 s.edge):=h0.cell 0;have c1:wa.cell? ⟨w.heap.size,1,none⟩=some (.bool s.rev):=h0.cell 1;have HZ:=zq h1;clear hwa hbwa h0 h1;obtain⟨n,r⟩:=s;unfold stA13 at*;unfold endA inE;dsimp only at*
 cases r with
 |false=>
  have HR:=zq (qab HZ.out #[.int .i64 n,.int .i64 0]);have HBF:=zq (qac (g:=w.heap.size+1) HBWA.out (by omega) #[.int .i64 n,.int .i64 0]);go_enter Tryz.func116,Tryz.ntmps116;go_upto_region 1 with fail;rw[HWA.out];clear HWA HBWA;go_wp2_with (with_reducible refine stZ #[.int .i64 n,.int .i64 0] HZ.out ?_);refine roZ HR.out ?_;exact⟨rfl,HBF.out⟩
 |true=>
  have HR:=zq (qab HZ.out #[.int .i64 n,.int .i64 1]);have HBF:=zq (qac (g:=w.heap.size+1) HBWA.out (by omega) #[.int .i64 n,.int .i64 1]);go_enter Tryz.func116,Tryz.ntmps116;go_upto_region 1 with fail;rw[HWA.out];clear HWA HBWA;go_wp2_with (with_reducible refine stZ #[.int .i64 n,.int .i64 1] HZ.out ?_);refine roZ HR.out ?_;exact⟨rfl,HBF.out⟩
theorem rout_any (s:St3)(w:World):
  Calls Tryz.prog 115 #[.agg (stA13 s)] w fun e w'=>e= .returned (.agg (endA (outE s)))/\Below w.heap.size w w':=by
 obtain⟨wa,hwa,hbwa,HWA,HBWA,h0,h1⟩:=bx2Z w 30 (stA13 s) 147 #[.int .i64 0,.int .i64 0];have c0:wa.cell? ⟨w.heap.size,0,none⟩=some (.int .i64 s.edge):=h0.cell 0;have c1:wa.cell? ⟨w.heap.size,1,none⟩=some (.bool s.rev):=h0.cell 1;have HZ:=zq h1;clear hwa hbwa h0 h1;obtain⟨n,r⟩:=s;unfold stA13 at*;unfold endA outE;dsimp only at*
 cases r with
 |false=>
  have HR:=zq (qab HZ.out #[.int .i64 n,.int .i64 1]);have HBF:=zq (qac (g:=w.heap.size+1) HBWA.out (by omega) #[.int .i64 n,.int .i64 1]);go_enter Tryz.func115,Tryz.ntmps115;go_upto_region 1 with fail;rw[HWA.out];clear HWA HBWA;go_wp2_with (with_reducible refine stZ #[.int .i64 n,.int .i64 1] HZ.out ?_);refine roZ HR.out ?_;exact⟨rfl,HBF.out⟩
 |true=>
  have HR:=zq (qab HZ.out #[.int .i64 n,.int .i64 0]);have HBF:=zq (qac (g:=w.heap.size+1) HBWA.out (by omega) #[.int .i64 n,.int .i64 0]);go_enter Tryz.func115,Tryz.ntmps115;go_upto_region 1 with fail;rw[HWA.out];clear HWA HBWA;go_wp2_with (with_reducible refine stZ #[.int .i64 n,.int .i64 0] HZ.out ?_);refine roZ HR.out ?_;exact⟨rfl,HBF.out⟩
theorem qfA (A:Option Addr)(n c:Nat)(l:List Jt3)(a b:Int×Int)(w:World)(hj:SlO jtC 4 w A n c l)(hn:n<=1048576):
  Calls Tryz.prog 112 #[.slice A n c,.agg (endA a),.agg (endA b)] w fun e w'=>e= .returned (.bool (joinB l a b))/\Below w.heap.size w w':=by
 obtain⟨wa,hwa,hbwa,HWA,HBWA,h0,h1⟩:=bx2Z w 147 (endA a) 147 (endA b);have HJ:=zq (hj.under hbwa);have HL:=zq hj.1;have c0:wa.cell? ⟨w.heap.size,0,none⟩=some (.int .i64 a.1):=h0.cell 0;have c1:wa.cell? ⟨w.heap.size,1,none⟩=some (.int .i64 a.2):=h0.cell 1;have f0:wa.cell? ⟨w.heap.size+1,0,none⟩=some (.int .i64 b.1):=h1.cell 0;have f1:wa.cell? ⟨w.heap.size+1,1,none⟩=some (.int .i64 b.2):=h1.cell 1;clear hwa hbwa h0 h1 hj;obtain⟨q,hq⟩:=geZ (joinB l a b);have HQ:=zq hq;rw[hq];clear hq;unfold endA at HWA;unfold endA;go_enter Tryz.func112,Tryz.ntmps112;go_upto_region 1 with fail;rw[HWA.out];clear HWA;go_wp2;go_loopg [7] n (fun kk v wl=> ∃i k:Nat,i<=n/\n-i<=kk/\v= .int .i64 i/\Hid (∀m j,m<i->l[m]?=some j->joinJ a b j=false)/\wl=wa.drewN k)
 case atStart=>exact⟨0,0,by omega,by omega,rfl,zq fun m j h=>absurd h (by omega),rfl⟩
 obtain⟨i,k,hi,hik,rfl,HNO,hwr⟩:=hrel;have HWR:=zq hwr;by_cases hlt:i<n;rotate_left
 ·have hqf:q=false:=by
   rw[<-HQ.out];unfold joinB;rw[List.any_eq_false];intro j hjm;obtain⟨m,hm,rfl⟩:=List.getElem_of_mem hjm;have hl:=HL.out;rw[HNO.out m _ (by omega) (List.getElem?_eq_getElem hm)]
   decide
  have x1: ¬(i:Int)<n:=by omega
  have HBF:Hid (Below w.heap.size w wr):=zq (by rw[HWR.out];exact qaa HBWA.out k);clear hwr;go_wp2;go_ret
  exact⟨by first|rfl|rw[hqf],HBF.out⟩
 obtain⟨j,hj⟩:=glZ l (i) (by rw[HL.out];omega);have HJJ:=zq hj;obtain⟨bk,off,rfl,d0,d1,d2,d3⟩:=HJ.out.joint hj;clear hj;have y0:(0:Int)<=i:=by omega
 have y1:(i:Int)<n:=by omega
 have q1:=qdv j.a a;have q2:=qdv j.b b;have q3:=qdv j.a b;have q4:=qdv j.b a;have hjj:joinJ a b j=((eqE j.a a &&eqE j.b b)||(eqE j.a b &&eqE j.b a)):=rfl;obtain⟨e1,he1⟩: ∃e,eqE j.a a=e:=⟨_,rfl⟩
 obtain⟨e2,he2⟩: ∃e,eqE j.b b=e:=⟨_,rfl⟩
 obtain⟨e3,he3⟩: ∃e,eqE j.a b=e:=⟨_,rfl⟩
 obtain⟨e4,he4⟩: ∃e,eqE j.b a=e:=⟨_,rfl⟩
 rw[he1]at q1;rw[he2]at q2;rw[he3]at q3;rw[he4]at q4;rw[he1,he2,he3,he4]at hjj;have HJB:=zq hjj;clear he1 he2 he3 he4 hjj;unfold endA at q1 q2 q3 q4;subst hwr;skip;go_upto_region 4 with fail
 cases e1 with
 |false=>
  cases e3 with
  |false=>
   go_quiet (fail);go_wp2;go_roundg (gk-1)
   case measure=>omega
   case rel=>
    refine⟨i+1,_,by omega,by omega,by go_num,zq (fun m j' hm hj'=>?_),by first|rfl|rw[World.drewN_drewN]⟩;by_cases hmi:m=i
    ·subst hmi
     rw[HJJ.out]at hj';injection hj' with hj'
     rw[<-hj',HJB.out];simp
    ·exact HNO.out m j' (by omega) hj'
  |true=>
   cases e4 with
   |false=>
    go_quiet (fail);go_wp2;go_roundg (gk-1)
    case measure=>omega
    case rel=>
     refine⟨i+1,_,by omega,by omega,by go_num,zq (fun m j' hm hj'=>?_),by first|rfl|rw[World.drewN_drewN]⟩;by_cases hmi:m=i
     ·subst hmi
      rw[HJJ.out]at hj';injection hj' with hj'
      rw[<-hj',HJB.out];simp
     ·exact HNO.out m j' (by omega) hj'
   |true=>
    go_quiet (fail);go_wp2;go_ret
    have hq:q=true:=by
     rw[<-HQ.out];unfold joinB;rw[List.any_eq_true];exact⟨j,List.mem_of_getElem? HJJ.out,by rw[HJB.out];simp⟩
    exact⟨by first|rfl|(rw[hq];rfl)|rw[hq],by first|exact qaa HBWA.out _|(rw[World.drewN_drewN];exact qaa HBWA.out _)⟩
 |true=>
  cases e2 with
  |false=>
   cases e3 with
   |false=>
    go_quiet (fail);go_wp2;go_roundg (gk-1)
    case measure=>omega
    case rel=>
     refine⟨i+1,_,by omega,by omega,by go_num,zq (fun m j' hm hj'=>?_),by first|rfl|rw[World.drewN_drewN]⟩;by_cases hmi:m=i
     ·subst hmi
      rw[HJJ.out]at hj';injection hj' with hj'
      rw[<-hj',HJB.out];simp
     ·exact HNO.out m j' (by omega) hj'
   |true=>
    cases e4 with
    |false=>
     go_quiet (fail);go_wp2;go_roundg (gk-1)
     case measure=>omega
     case rel=>
      refine⟨i+1,_,by omega,by omega,by go_num,zq (fun m j' hm hj'=>?_),by first|rfl|rw[World.drewN_drewN]⟩;by_cases hmi:m=i
      ·subst hmi
       rw[HJJ.out]at hj';injection hj' with hj'
       rw[<-hj',HJB.out];simp
      ·exact HNO.out m j' (by omega) hj'
    |true=>
     go_quiet (fail);go_wp2;go_ret
     have hq:q=true:=by
      rw[<-HQ.out];unfold joinB;rw[List.any_eq_true];exact⟨j,List.mem_of_getElem? HJJ.out,by rw[HJB.out];simp⟩
     exact⟨by first|rfl|(rw[hq];rfl)|rw[hq],by first|exact qaa HBWA.out _|(rw[World.drewN_drewN];exact qaa HBWA.out _)⟩
  |true=>
   go_quiet (fail);go_wp2;go_ret
   have hq:q=true:=by
    rw[<-HQ.out];unfold joinB;rw[List.any_eq_true];exact⟨j,List.mem_of_getElem? HJJ.out,by rw[HJB.out];simp⟩
   exact⟨by first|rfl|(rw[hq];rfl)|rw[hq],by first|exact qaa HBWA.out _|(rw[World.drewN_drewN];exact qaa HBWA.out _)⟩
end
end Go.Proofs.YtahadmeilajdgaaGreatDoor
