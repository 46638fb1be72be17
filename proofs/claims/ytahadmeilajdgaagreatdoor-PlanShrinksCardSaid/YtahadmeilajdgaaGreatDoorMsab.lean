/-
  Our own text, joined.
-/
import Derived.Test.YtahadmeilajdgaaGreatDoorMsaa
import Derived.Lib.Hide
import Derived.BigQuiet
import Derived.IntWalk
import Derived.ProofKit
import Derived.OpenShut
import Derived.Deep.Slices
import Derived.Lib.SmallJoins
import Derived.ChangeArms
import Derived.Deep.LoopGhost
namespace Go.Proofs.YtahadmeilajdgaaGreatDoor
set_option maxRecDepth 100000
set_option maxHeartbeats 8000000
section
def timerR (t:Tp3)(id:Int):Int:=
 match routeF t id with
 |some r=>r.timer
 |none=>0
def gapR (t:Tp3)(id:Int):Int:=
 match routeF t id with
 |some r=>r.gap
 |none=>0
def afterS (path:List St3)(s:St3):List St3:=(path.dropWhile fun x=>!eqS x s).drop 1
def buildGo (t:Tp3)(b0:Int):List St3->List Lc3->List Sc3
 |_,[]=>[]
 |path,k::r=>⟨sumT t (path++pathR t k.route)-b0,timerR t k.route⟩::buildGo t b0 (path++pathR t k.route) r
def rawB (t:Tp3)(b0:Int)(g:List St3)(s:St3):List Lc3->List Sc3
 |[]=>[]
 |k::r=>⟨sumT t (g++afterS (pathR t k.route) s)-b0,timerR t k.route⟩::buildGo t b0 (g++afterS (pathR t k.route) s) r
def fullB (t:Tp3)(g:List St3)(s:St3):List Lc3->List St3
 |[]=>g
 |k::r=>(g++afterS (pathR t k.route) s)++wayC t r
def zeroS:Sc3:=⟨0,0⟩
def lessB (g:Int)(l:List Sc3):List Sc3:=l.dropLast++[⟨(l.getLastD zeroS).to_-g,(l.getLastD zeroS).timer⟩]
def badB (n g:Int)(l:List Sc3):Bool:=decide ((l.getLastD zeroS).to_-g<=n)||(match l.dropLast.getLast? with
 |none=>false
 |some q=>decide ((l.getLastD zeroS).to_-g<=q.to_))
def fromOne (l:List Sc3):List Sc3:=
 match l with
 |[]=>[]
 |s::r=>if s.to_=0 then r else s::r
def gapC (t:Tp3)(c:List Lc3):Int:=
 match c.getLast? with
 |none=>0
 |some k=>gapR t k.route
def buildE (t:Tp3)(l:List Lc3)(train ref:Int)(rev:Bool)(n:Int):Ma3×Int:=
 if(locE t ref rev n).2≠0 then(noMa,(locE t ref rev n).2)
 else
  let s:=stepP (locE t ref rev n).1
  let c:=chainL t l train s
  let p:=placeM t ⟨ref,rev,[],[],0⟩
  let g:=goneL t p n
  if c.isEmpty=true then(noMa,4)
  else if(decide (24<(fullB t g s c).length)||twiceB (fullB t g s c))=true then(noMa,2)
  else if badB n (gapC t c) (rawB t (intoP t p) g s c)=true then(noMa,141)
  else(⟨ref,rev,fullB t g s c,fromOne (lessB (gapC t c) (rawB t (intoP t p) g s c)),gapC t c⟩,0)
/-! ## Lists -/
theorem wayC_app (t:Tp3)(a b:List Lc3):wayC t (a++b)=wayC t a++wayC t b:=List.flatMap_append
theorem wayC_one (t:Tp3)(k:Lc3):wayC t [k]=pathR t k.route:=by simp[wayC]
/-! ## Its way -/
theorem edges_wayC {t:Tp3}(hc:checkE t=0){c:List Lc3}(h: ∀x∈c,(routeF t x.route).isSome=true): ∀a∈wayC t c,edgeB t a.edge=true:=by
 intro a ha;obtain⟨k,hk,hka⟩:=List.mem_flatMap.1 ha;obtain⟨q,_,q2,q3⟩:=route_path hc (h k hk);rw[q2]at hka;exact(route_ok q3).2.2.2.1 a hka
/-! ## Its sections -/
theorem last_snoc17 (p:Int)(l:List Sc3)(x:Sc3):lastTo p (l++[x])=x.to_:=by
 induction l generalizing p with
 |nil=>rfl
 |cons s r ih=>exact ih s.to_
theorem last_get {p:Int}{l:List Sc3}{q:Sc3}(h:l.getLast?=some q):lastTo p l=q.to_:=by
 have hne:l≠[]:=by rintro rfl;cases h
 rw[List.getLast?_eq_some_getLast hne]at h;injection h with h
 rw[<-List.dropLast_concat_getLast hne,h];exact last_snoc17 _ _ _
theorem fromOne_cons (s:Sc3)(r:List Sc3):fromOne (s::r)=if s.to_=0 then r else s::r:=rfl
end
section
open Go.RowKit
def unitOf (s:Int):Int:=if s=0 then 1 else if s=1 then 10 else if s=2 then 100 else 0
def dmOf (n s:Int):Int×Int:=if unitOf s=0 then(0,1)else if n<0\/32766<n then(0,7)else(n*unitOf s,0)
def wholeOf (dm u:Int)(up:Bool):Int:=dm/u+if up=true/\dm %u≠0 then 1 else 0
def scaledOf (dm s:Int)(up:Bool):Int×Int:=
 if unitOf s=0 then(0,1)else if dm<0\/1099511627776<dm then(0,7)else if 32766<wholeOf dm (unitOf s) up then(0,7)else(wholeOf dm (unitOf s) up,0)
def bestOf (dm:Int):Int:=if(scaledOf dm 0 true).2=0 then 0 else if(scaledOf dm 1 true).2=0 then 1 else if(scaledOf dm 2 true).2=0 then 2 else -1
def pair (x:Int×Int):Value:= .tuple #[.int .i64 x.1,.int .i64 x.2]
theorem unit_cases (s:Int):unitOf s=0\/unitOf s=1\/unitOf s=10\/unitOf s=100:=by
 unfold unitOf;split
 ·omega
 ·split
  ·omega
  ·split<;>omega
theorem unit_any (s:Int)(w:World):
  Calls Tryz.prog 28 #[.int .i64 s] w fun e w'=>e= .returned (.int .i64 (unitOf s))/\w=w':=by
 by_cases h0:s=0
 ·subst h0
  rw[show unitOf 0=1 from rfl];go_enter Tryz.func28,Tryz.ntmps28;go_wp2;go_ret
  exact⟨rfl,rfl⟩
 ·by_cases h1:s=1
  ·subst h1
   rw[show unitOf 1=10 from rfl];go_enter Tryz.func28,Tryz.ntmps28;go_wp2;go_ret
   exact⟨rfl,rfl⟩
  ·by_cases h2:s=2
   ·subst h2
    rw[show unitOf 2=100 from rfl];go_enter Tryz.func28,Tryz.ntmps28;go_wp2;go_ret
    exact⟨rfl,rfl⟩
   ·rw[show unitOf s=0 by simp[unitOf,h0,h1,h2]]
    go_enter Tryz.func28,Tryz.ntmps28;go_wp2;go_ret
    exact⟨rfl,rfl⟩
end
section
def dirB (rev:Bool):Int:=if rev=true then 0 else 1
def scT (n u:Int):Int:=(scaledOf n u false).1
def secsV (u:Int):Int->List Sc3->Option (List Int)
 |_,[]=>some []
 |b,s::r=>if scT s.to_ u-b<=0 then none else(secsV u (scT s.to_ u) r).map fun w=>(scT s.to_ u-b)::1::s.timer::0::w
def gapV (g:Int):List Int:=if g=0 then[0,0,0]else[0,1,g,0,0]
def fifteenE (m:Ma3)(u:Int):Option (List Int):=(secsV u 0 m.sects).map fun w=>dirB m.rev::u::0::0::((m.sects.length:Int)-1)::(w++gapV (scT m.gap u))
def groupF (t:Tp3)(e:Int):Option Bl3:=t.bals.find? fun b=>b.edge==e
def linksV (t:Tp3)(m:Ma3)(u:Int):Int->Bool->List St3->List Int×Int
 |_,_,[]=>([],0)
 |last,fst,s::r=>
  match groupF t s.edge with
  |none=>([],1)
  |some b=>
   if(scaledOf ((onE t m.path ⟨b.edge,b.at_,s.rev⟩).1-last) u false).2≠0 then([],(scaledOf ((onE t m.path ⟨b.edge,b.at_,s.rev⟩).1-last) u false).2)
   else if(linksV t m u (onE t m.path ⟨b.edge,b.at_,s.rev⟩).1 false r).2≠0 then([],(linksV t m u (onE t m.path ⟨b.edge,b.at_,s.rev⟩).1 false r).2)
   else(scT ((onE t m.path ⟨b.edge,b.at_,s.rev⟩).1-last) u::1::b.id/16384::b.id %16384::dirB s.rev::2::12::((if fst=true then[(m.path.length:Int)-2]else[])++(linksV t m u (onE t m.path ⟨b.edge,b.at_,s.rev⟩).1 false r).1),0)
def packetsE (t:Tp3)(m:Ma3):List (Int×List Int)×Int:=
 if mayM t m=false then([],1)
 else if bestOf (endM m+m.gap)<0 then([],7)
 else match fifteenE m (bestOf (endM m+m.gap))with
  |none=>([],7)
  |some v=>
   if m.path.length=1 then([(15,v)],0)
   else if(linksV t m (bestOf (endM m+m.gap)) (behindM t m) true (m.path.drop 1)).2≠0 then([],(linksV t m (bestOf (endM m+m.gap)) (behindM t m) true (m.path.drop 1)).2)
   else([(15,v),(5,dirB m.rev::bestOf (endM m+m.gap)::(linksV t m (bestOf (endM m+m.gap)) (behindM t m) true (m.path.drop 1)).1)],0)
def readSecs (u:Int):Nat->Int->List Int->List Sc3×List Int×Int
 |0,_,v=>([],v,0)
 |k+1,to_,v=>
  if v.getD 1 0≠1 then([],[],20)
  else if v.getD 2 0<1\/1000<v.getD 2 0\/v.getD 0 0=0 then([],[],20)
  else if(dmOf (v.getD 0 0) u).2≠0 then([],[],7)
  else
   let r:=readSecs u k (to_+(dmOf (v.getD 0 0) u).1) (v.drop 4)
   if r.2.2≠0 then([],[],r.2.2)else(⟨to_+(dmOf (v.getD 0 0) u).1,v.getD 2 0⟩::r.1,r.2.1,0)
def gapE (v:List Int)(u:Int):Int×Int:=
 let v:=if v.getD 0 0=1 then v.drop 2 else v
 if v.getD 1 0≠1 then(0,0)else if(dmOf (v.getD 2 0) u).2≠0 then(0,7)else((dmOf (v.getD 2 0) u).1,0)
def linkOne (t:Tp3)(path:List St3)(v:List Int):List St3×Int:=
 if v.getD 1 0≠1 then([],20)
 else match balF t (v.getD 2 0*16384+v.getD 3 0)with
  |none=>([],4)
  |some b=>
   if b.edge=(lastS path).edge then(path,0)
   else if mayT t (lastS path) ⟨b.edge,v.getD 4 0==0⟩=false then([],141)
   else if metS path [⟨b.edge,v.getD 4 0==0⟩]=true\/path.length=24 then([],2)
   else(path++[⟨b.edge,v.getD 4 0==0⟩],0)
def linkGo (t:Tp3):Nat->List St3->List Int->List St3×Int
 |0,path,_=>(path,0)
 |k+1,path,v=>if(linkOne t path v).2≠0 then([],(linkOne t path v).2)else linkGo t k (linkOne t path v).1 (v.drop 7)
def linkedE (t:Tp3)(path:List St3)(v:List Int):List St3×Int:=
 if(linkOne t path (v.drop 2)).2≠0 then([],(linkOne t path (v.drop 2)).2)else linkGo t (v.getD 9 0).toNat (linkOne t path (v.drop 2)).1 (v.drop 10)
def readE (t:Tp3)(ok:Int×List Int->Bool)(ref:Int)(rev:Bool)(l:List (Int×List Int)):Ma3×Int:=
 if checkE t≠0 then(noMa,1)
 else match balF t ref with
  |none=>(noMa,4)
  |some b=>
   match l with
   |[]=>(noMa,50)
   |(id,v)::_=>
    if id≠15\/l.all ok=false then(noMa,50)
    else if v.getD 0 0≠dirB rev then(noMa,20)
    else if 7<v.getD 4 0 then(noMa,2)
    else
     let s:=readSecs (v.getD 1 0) (v.getD 4 0+1).toNat 0 (v.drop 5)
     if s.2.2≠0 then(noMa,s.2.2)
     else if(gapE s.2.1 (v.getD 1 0)).2≠0 then(noMa,(gapE s.2.1 (v.getD 1 0)).2)
     else
      let p:List St3×Int:=match l.find? fun q=>q.1==5 with
       |none=>([⟨b.edge,rev⟩],0)
       |some q=>linkedE t [⟨b.edge,rev⟩] q.2
      if p.2≠0 then(noMa,p.2)
      else if mayM t ⟨ref,rev,p.1,s.1,(gapE s.2.1 (v.getD 1 0)).1⟩=true then(⟨ref,rev,p.1,s.1,(gapE s.2.1 (v.getD 1 0)).1⟩,0)else(noMa,7)
/-! ## Rounding -/
theorem check_bals {t:Tp3}(h:checkE t=0): ∀i,i<t.bals.length->balE t i=0:=by
 unfold checkE at h;by_cases h1:longB t=true
 ·rw[if_pos h1]at h;exact absurd h (by decide)
 ·rw[if_neg h1]at h
  by_cases h2:edgesOk t=true
  ·rw[if_pos h2]at h
   by_cases h3:firstE (jointE t) t.joints.length=0
   ·rw[if_pos h3]at h
    by_cases h4:firstE (balE t) t.bals.length=0
    ·exact first_zero.1 h4
    ·rw[if_neg h4]at h;exact absurd h h4
   ·rw[if_neg h3]at h;exact absurd h h3
  ·rw[if_neg h2]at h;exact absurd h (by decide)
theorem bal_find {t:Tp3}(hc:checkE t=0){b:Bl3}(hb:b∈t.bals):0<=b.id/\b.id<=16777214/\edgeB t b.edge=true/\balF t b.id=some b:=by
 obtain⟨i,hi⟩:=List.getElem?_of_mem hb;have h0:=check_bals hc i (List.getElem?_eq_some_iff.1 hi).1;unfold balE at h0;rw[hi]at h0;simp only at h0;split at h0
 ·rename_i h1
  simp only[Bool.and_eq_true,decide_eq_true_eq]at h1;refine⟨h1.1.1.1.1,h1.1.1.1.2,h1.1.1.2,find_first hi (by simp) ?_⟩;by_cases ht:((t.bals.take i).any fun x=>x.id==b.id)=true
  ·rw[if_pos ht]at h0;exact absurd h0 (by decide)
  ·simpa using ht
 ·exact absurd h0 (by decide)
end
section
/-! ## Where a group lies -/
theorem bal_on17 {t:Tp3}(hc:checkE t=0){ref:Int}{b:Bl3}(hb:balF t ref=some b)(rev:Bool):rightP t ⟨b.edge,b.at_,rev⟩=true:=by
 obtain⟨i,hi⟩:=List.getElem?_of_mem (List.mem_of_find?_eq_some hb);have h0:=check_bals hc i (List.getElem?_eq_some_iff.1 hi).1;unfold balE at h0;rw[hi]at h0;simp only at h0;split at h0
 ·rename_i h1
  simp only[Bool.and_eq_true,decide_eq_true_eq]at h1;exact right_iff.2 ⟨hc,on_iff.2 ⟨h1.1.1.2,h1.1.2,h1.2⟩⟩
 ·exact absurd h0 (by decide)
theorem loc_zero17 (t:Tp3)(ref:Int)(rev:Bool):locE t ref rev 0=if checkE t=0 then(match balF t ref with|some b=>((⟨b.edge,b.at_,rev⟩,0):Ps3×Int)|none=>(zeroP,4))else(zeroP,1):=by
 unfold locE;split
 ·rename_i hc
  cases hb:balF t ref with
  |none=>rfl
  |some b=>
   dsimp only;have hr:=bal_on17 hc hb rev;unfold walkE;rw[if_pos ⟨hr,Int.le_refl _,by decide⟩,walk_here (ahead_ok (check_routes hc).1 (right_iff.1 hr).2).1,moved_zero]
 ·rfl
theorem loc_place17 {t:Tp3}{ref:Int}{rev:Bool}{x:Ps3}(h:locE t ref rev 0=(x,0)):checkE t=0/\(balF t ref).isSome=true/\rightP t x=true/\ ∀m:Ma3,m.ref=ref->m.rev=rev->placeM t m=x:=by
 rw[loc_zero17]at h;split at h
 ·rename_i hc
  cases hb:balF t ref with
  |none=>rw[hb]at h;exact absurd (show(4:Int)=0 from congrArg Prod.snd h) (by decide)
  |some b=>
   rw[hb]at h;dsimp only at h;injection h with h _
   subst h;refine⟨hc,rfl,bal_on17 hc hb rev,fun m h1 h2=>?_⟩;unfold placeM;rw[h1,hb,h2]
 ·exact absurd (show(1:Int)=0 from congrArg Prod.snd h) (by decide)
theorem loc_none17 {t:Tp3}{ref:Int}{rev:Bool}(h:(locE t ref rev 0).2≠0):checkE t≠0\/(balF t ref).isSome=false:=by
 rw[loc_zero17]at h;split at h
 ·cases hb:balF t ref with
  |none=>exact .inr rfl
  |some b=>rw[hb]at h;exact absurd rfl h
 ·exact .inl (by assumption)
theorem loc_group17 {t:Tp3}{ref:Int}{rev:Bool}{n:Int}{x:Ps3}(h:locE t ref rev n=(x,0)): ∃p,locE t ref rev 0=(p,0)/\walkE t p n=(x,0)/\placeM t ⟨ref,rev,[],[],0⟩=p:=by
 rw[loc_zero17];unfold locE at h;split at h
 ·rename_i hc
  rw[if_pos hc];unfold placeM;dsimp only
  cases hb:balF t ref with
  |none=>rw[hb]at h;exact absurd (show(4:Int)=0 from congrArg Prod.snd h) (by decide)
  |some b=>rw[hb]at h;exact⟨_,rfl,h,rfl⟩
 ·exact absurd (show(1:Int)=0 from congrArg Prod.snd h) (by decide)
theorem entered17 {t:Tp3}{p:Ps3}(h:rightP t p=true):onE t [stepP p] p=(intoP t p,0):=by
 have hl:lenE t [stepP p]=0:=by
  unfold lenE;rw[if_neg (by simp),if_pos (by simp only[List.all_cons,List.all_nil,Bool.and_true];exact(on_iff.1 (right_iff.1 h).2).1),if_pos (show wayB t [stepP p]=true from rfl)]
 unfold onE;rw[if_pos h,if_pos hl];have h1:onGo t p [stepP p] 0=some (intoP t p):=by
  rw[onGo,if_pos ((eqS_iff _ _).2 rfl)];unfold intoP;rw[Int.zero_add]
 rw[h1]
theorem into_ok17 {t:Tp3}(ht:edgesOk t=true){p:Ps3}(h:onB t p=true):0<=intoP t p/\intoP t p<=lenAt t (stepP p):=by
 have h1:=ahead_ok ht h;have h2:=on_iff.1 h;unfold intoP;rw[lenAt_edge];show 0<=edgeLen t p.edge-aheadP t p/\edgeLen t p.edge-aheadP t p<=edgeLen t p.edge
 refine⟨?_,by omega⟩;unfold aheadP;split<;>omega
theorem behind_into17 {t:Tp3}{m:Ma3}{x:Ps3}(hp:placeM t m=x)(hr:rightP t x=true)(hl:lenE t m.path=0)(hf:firstB m.path (stepP x)=true):behindM t m=intoP t x:=by
 unfold behindM onE;rw[hp,if_pos hr,if_pos hl];unfold firstB at hf
 cases hq:m.path with
 |nil=>rw[hq]at hf;cases hf
 |cons y r=>
  rw[hq]at hf;dsimp only at hf⊢;rw[onGo,if_pos hf,(eqS_iff _ _).1 hf];unfold intoP;show 0+lenAt t (stepP x)-aheadP t x=_
  omega
/-! ## May -/
def risB:Int->List Sc3->Bool
 |_,[]=>true
 |p,s::r=>decide (p<s.to_) &&(decide (1<=s.timer) &&(decide (s.timer<=1000) &&risB s.to_ r))
theorem ris_cons {p:Int}{s:Sc3}{r:List Sc3}:risB p (s::r)=true↔p<s.to_/\1<=s.timer/\s.timer<=1000/\risB s.to_ r=true:=by
 rw[risB];simp only[Bool.and_eq_true,decide_eq_true_eq]
theorem ris_last {p:Int}{l:List Sc3}(h:risB p l=true):p<=lastTo p l:=by
 induction l generalizing p with
 |nil=>exact Int.le_refl _
 |cons s r ih=>
  have h1:=ris_cons.1 h;have h2:=ih h1.2.2.2;show p<=lastTo s.to_ r
  omega
theorem ris_of_secs {p:Int}{l:List Sc3}(h:secsB p l=true):risB p l=true:=by
 induction l generalizing p with
 |nil=>rfl
 |cons s r ih=>
  have h1:=secs_cons.1 h;exact ris_cons.2 ⟨h1.1,h1.2.2.1,h1.2.2.2.1,ih h1.2.2.2.2⟩
theorem secs_of_ris {p:Int}{l:List Sc3}(h:risB p l=true)(hl:lastTo p l<=100000000):secsB p l=true:=by
 induction l generalizing p with
 |nil=>rfl
 |cons s r ih=>
  have h1:=ris_cons.1 h;have h2:=ris_last h1.2.2.2;have h3:lastTo s.to_ r<=100000000:=hl;exact secs_cons.2 ⟨h1.1,by omega,h1.2.1,h1.2.2.1,ih h1.2.2.2 h3⟩
theorem may_no17 {t:Tp3}{m:Ma3}(h:(locE t m.ref m.rev 0).2≠0):mayM t m=false:=by
 cases hq:mayM t m with
 |false=>rfl
 |true=>
  have hm:=mayM_iff.1 hq
  rcases loc_none17 h with h1|h1
  ·exact absurd hm.check h1
  ·rw[hm.bal]at h1;cases h1
def pathOkB (t:Tp3)(path:List St3):Bool:=decide (lenE t path=0) &&(decide (path.length<=24) &&!twiceB path)
def sectsB (l:List Sc3):Bool:=risB 0 l &&(decide (1<=l.length) &&decide (l.length<=8))
theorem may_own17 {t:Tp3}{m:Ma3}{x:Ps3}(h:locE t m.ref m.rev 0=(x,0)):mayM t m=((pathOkB t m.path &&(firstB m.path (stepP x) &&sectsB m.sects)) &&(decide (0<=m.gap) &&decide (m.gap<=sumT t m.path-intoP t x-endM m))):=by
 obtain⟨hc,hb,hr,hp⟩:=loc_place17 h;have hp:=hp m rfl rfl;have ht:=(check_routes hc).1;rw[Bool.eq_iff_iff,mayM_iff];unfold pathOkB sectsB;simp only[Bool.and_eq_true,decide_eq_true_eq,Bool.not_eq_true']
 constructor
 ·intro hm
  have hf:=hm.first
  rw[hp]at hf;have hi:=behind_into17 hp hr hm.len hf;have h1:=hm.fits;exact⟨⟨⟨hm.len,hm.few,hm.once⟩,hf,ris_of_secs hm.secs,hm.one,hm.eight⟩,hm.gap0,by omega⟩
 ·rintro⟨⟨⟨h1,h2,h3⟩,h4,h5,h6,h7⟩,h8,h9⟩
  have hi:=behind_into17 hp hr h1 h4;have h0:=(into_ok17 ht (right_iff.1 hr).2).1;have hs:=(sum_ok ht (len_ok h1).2.2.1).2;have hl:=ris_last h5;have he:endM m=lastTo 0 m.sects:=rfl;refine⟨hc,hb,h2,h6,h7,h8,by omega,by rw[hp];exact h4,h3,h1,secs_of_ris h5 (by omega),by omega⟩
/-! ## The chain -/
def goesB (path:List St3)(e:Int):Bool:=path.any fun s=>s.edge==e
def meetsO (a b:List St3):Bool:=a.any fun s=>goesB b s.edge
def beginsO (path steps:List St3):Bool:=
 match path with
 |[]=>false
 |x::_=>amongB steps x
def fitsO (t:Tp3)(s:St3)(out:List Lc3)(route:List St3):Bool:=
 if out.isEmpty=true then amongB route s else beginsO route (afterL t (lastS (wayC t out))) &&!meetsO route (wayC t out)
theorem meets_met17 (a b:List St3):meetsO a b=metS b a:=by
 rw[Bool.eq_iff_iff];unfold meetsO goesB metS;simp only[List.any_eq_true,beq_iff_eq]
 constructor
 ·rintro⟨x,hx,y,hy,e⟩
  exact⟨y,hy,x,hx,e⟩
 ·rintro⟨y,hy,x,hx,e⟩
  exact⟨x,hx,y,hy,e⟩
theorem last_mem17 {l:List St3}(h:l≠[]):lastS l∈l:=by
 unfold lastS;rw[List.getLastD_eq_getLast?,List.getLast?_eq_some_getLast h];exact List.getLast_mem h
theorem chain_some17 {t:Tp3}{l:List Lc3}{train:Int}{s:St3}{out:List Lc3}(h:ChainP t l train s out): ∀x∈out,(routeF t x.route).isSome=true:=fun x hx=>by
 obtain⟨i,hi⟩:=List.getElem?_of_mem hx;exact(h.at hi).rt
theorem fits_okC17 {t:Tp3}{l:List Lc3}{train:Int}{s:St3}{out:List Lc3}(hc:checkE t=0)(h:ChainP t l train s out)(k:Lc3):okC t train s out k=(k.train==train &&fitsO t s out (pathR t k.route)):=by
 unfold okC fitsO
 cases hr:routeF t k.route with
 |none=>
  have hp:pathR t k.route=[]:=by unfold pathR;rw[hr]
  rw[hp];simp only[Option.isSome,Bool.and_false,Bool.false_and];split
  ·simp[amongB]
  ·simp[beginsO]
 |some r=>
  obtain⟨r',h1,h2,h3⟩:=route_path hc (id:=k.route) (by rw[hr];rfl);rw[hr]at h1;injection h1 with h1
  subst h1;have hro:=route_ok h3;simp only[Option.isSome,Bool.and_true]
  congr 1
  cases out with
  |nil=>simp
  |cons y q=>
   rw[if_neg (by simp),if_neg (by simp),meets_met17];have hsome:=chain_some17 h;have hedge:=edges_wayC hc hsome;have hy:pathR t y.route≠[]:=by
    obtain⟨ry,g1,g2,g3⟩:=route_path hc (hsome y (List.mem_cons_self ..));rw[g2];have:=(route_ok g3).2.1;intro e;rw[e]at this;exact absurd this (by simp)
   have hne:wayC t (y::q)≠[]:=by
    unfold wayC;rw[List.flatMap_cons];exact fun e=>hy (List.append_eq_nil_iff.1 e).1
   have hb:beginsO (pathR t k.route) (afterL t (lastS (wayC t (y::q))))=mayT t (lastS (wayC t (y::q))) (headS (pathR t k.route)):=by
    have hp:pathR t k.route≠[]:=by
     rw[h2];intro e;have:=hro.2.1;rw[e]at this;exact absurd this (by simp)
    cases hq:pathR t k.route with
    |nil=>exact absurd hq hp
    |cons a b=>
     show amongB (afterL t _) a=mayT t _ a
     rw[Bool.eq_iff_iff,among_iff,after_mem];have hea:edgeB t a.edge=true:=hro.2.2.2.1 a (by rw[<-h2,hq];exact List.mem_cons_self ..);exact⟨fun g=>g.2.2,fun g=>⟨hedge _ (last_mem17 hne),hea,g⟩⟩
   rw[hb]
   cases hm:metS (wayC t (y::q)) (pathR t k.route)with
   |true=>simp
   |false=>
    have hk:((y::q).any fun x=>eqK x k)=false:=any_eqK.2 fun hk=>by
     have hp:pathR t k.route≠[]:=by
      rw[h2];intro e;have:=hro.2.1;rw[e]at this;exact absurd this (by simp)
     obtain⟨a,ha⟩:=List.exists_mem_of_ne_nil _ hp;exact met_no.1 hm a (List.mem_flatMap.2 ⟨k,hk,ha⟩) a ha rfl
    rw[hk];simp
theorem find_own17 {t:Tp3}{l:List Lc3}{train:Int}{s:St3}{out:List Lc3}(hc:checkE t=0)(h:ChainP t l train s out):l.find? (okC t train s out)=(ofL l train).find? fun k=>fitsO t s out (pathR t k.route):=by
 have e1:okC t train s out=fun k=>k.train==train &&fitsO t s out (pathR t k.route):=funext (fits_okC17 hc h);rw[e1];unfold ofL;rw[List.find?_filter]
 congr 1
 funext k
 rw[Bool.eq_iff_iff];simp
theorem chain_next_p17 {t:Tp3}{l:List Lc3}{train:Int}{s:St3}{out:List Lc3}{x:Lc3}(h:ChainP t l train s out)(hx:l.find? (okC t train s out)=some x):ChainP t l train s (out++[x]):=h.snoc (okC_step (List.mem_of_find?_eq_some hx) (by simpa using List.find?_some hx))
/-! ## The way walked -/
theorem gone_next17 {t:Tp3}(ht:edgesOk t=true){p x:Ps3}{n:Int}{G pre:List St3}{s:St3}{k:Nat}{left:Int}(hG:GoneP t p x n G)(h:pre++goneGo t k s left=G)(hs:sumT t pre+lenAt t s+left=intoP t p+n)(h0:0<left):
  ∃y j,k=j+1/\afterL t s=[y]/\(pre++[s])++goneGo t j y (left-lenAt t y)=G/\sumT t (pre++[s])+lenAt t y+(left-lenAt t y)=intoP t p+n:=by
 have hstop:goneGo t k s left≠[s]:=fun e=>by
  rw[e]at h;obtain⟨pre',h1,h2⟩:=hG.split;rw[<-h]at h1;obtain⟨e1,e2⟩:=List.append_inj' h1 rfl;injection e2 with e2 _
  subst e1;have h3:=into_ok17 ht hG.on;rw[<-e2]at h3;omega
 cases k with
 |zero=>exact absurd rfl hstop
 |succ j=>
  rw[goneGo,if_pos h0]at h hstop;split at h
  ·rename_i y hy
   refine⟨y,j,rfl,hy,by rw[List.append_assoc];exact h,?_⟩;rw[sum_app];show sumT t pre+(lenAt t s+0)+_+_=_
   omega
  ·rename_i hno
   split at hstop
   ·rename_i y hy
    exact absurd hy (hno y)
   ·exact absurd rfl hstop
theorem gone_end17 {t:Tp3}{s:St3}{k:Nat}{left:Int}(h: ¬0<left):goneGo t k s left=[s]:=by
 cases k with
 |zero=>rfl
 |succ j=>rw[goneGo,if_neg h]
/-! ## The authority -/
def behS (path:List St3)(s:St3):List St3:=if amongB path s=true then afterS path s else path
def authGo (t:Tp3)(b0:Int)(s:St3):List St3->List Lc3->List Sc3
 |_,[]=>[]
 |path,k::r=>⟨sumT t (path++behS (pathR t k.route) s)-b0,timerR t k.route⟩::authGo t b0 s (path++behS (pathR t k.route) s) r
def authP (t:Tp3)(s:St3)(c:List Lc3):List St3:=c.flatMap fun k=>behS (pathR t k.route) s
theorem beh_first17 {path:List St3}{s:St3}(h:s∈path):behS path s=afterS path s:=by
 unfold behS;rw[if_pos ((among_iff _ _).2 h)]
theorem beh_other17 {path:List St3}{s:St3}(h:s∉path):behS path s=path:=by
 unfold behS;rw[if_neg (fun e=>h ((among_iff _ _).1 e))]
theorem beh_at17 {path:List St3}{s:St3}{i:Nat}(hi:path[i]?=some s)(hno: ∀(j:Nat) (y:St3),j<i->path[j]?=some y->eqS y s=false):behS path s=path.drop (i+1):=by
 rw[beh_first17 (List.mem_of_getElem? hi)];unfold afterS
 induction path generalizing i with
 |nil=>cases hi
 |cons x r ih=>
  cases i with
  |zero=>
   injection hi with hi
   subst hi;rw[List.dropWhile_cons,if_neg (by rw[(eqS_iff _ _).2 rfl];decide)]
  |succ j=>
   rw[List.dropWhile_cons,if_pos (by rw[hno 0 x (by omega) rfl];decide)];exact ih (i:=j) hi fun m y hm hy=>hno (m+1) y (by omega) hy
theorem beh_none17 {path:List St3}{s:St3}(hno: ∀(j:Nat) (y:St3),path[j]?=some y->eqS y s=false):behS path s=path:=by
 refine beh_other17 fun h=>?_;obtain⟨i,hi⟩:=List.getElem?_of_mem h;have:=hno i s hi;rw[(eqS_iff _ _).2 rfl]at this
 cases this
theorem auth_rest17 {t:Tp3}{b0:Int}{s:St3}{r:List Lc3}{g:List St3}(h: ∀k∈r,s∉pathR t k.route):authGo t b0 s g r=buildGo t b0 g r/\authP t s r=wayC t r:=by
 induction r generalizing g with
 |nil=>exact⟨rfl,rfl⟩
 |cons k r ih=>
  have h1:=beh_other17 (h k (List.mem_cons_self ..));obtain⟨h2,h3⟩:=ih (g:=g++pathR t k.route) fun y hy=>h y (List.mem_cons_of_mem _ hy);unfold authP wayC at h3⊢;rw[authGo,buildGo,List.flatMap_cons,List.flatMap_cons,h1,h2,h3];exact⟨rfl,rfl⟩
theorem auth_raw17 {t:Tp3}{l:List Lc3}{train:Int}{s:St3}{c:List Lc3}(h:ChainP t l train s c)(b0:Int)(g:List St3)(hc:c≠[]):authGo t b0 s g c=rawB t b0 g s c/\g++authP t s c=fullB t g s c:=by
 cases c with
 |nil=>exact absurd rfl hc
 |cons k r=>
  have hk:s∈pathR t k.route:=(h.at (i:=0) (x:=k) rfl).first rfl
  have hr: ∀y∈r,s∉pathR t y.route:=fun y hy hm=>by
   obtain⟨i,hi⟩:=List.getElem?_of_mem hy;have h1:=(h.at (i:=i+1) (x:=y) (by simpa using hi)).apart s (List.mem_flatMap.2 ⟨k,by rw[List.take_succ_cons];exact List.mem_cons_self ..,hk⟩) s hm;exact h1 rfl
  obtain⟨h1,h2⟩:=auth_rest17 (b0:=b0) (g:=g++behS (pathR t k.route) s) hr;rw[authGo,rawB,fullB,h1,beh_first17 hk];refine⟨rfl,?_⟩;unfold authP at h2⊢;rw[List.flatMap_cons,h2,beh_first17 hk,List.append_assoc]
theorem auth_snoc17 {t:Tp3}{b0:Int}{s:St3}{k:Lc3}{c:List Lc3}{g:List St3}:authGo t b0 s g (c++[k])=authGo t b0 s g c++[⟨sumT t (g++authP t s (c++[k]))-b0,timerR t k.route⟩]/\authP t s (c++[k])=authP t s c++behS (pathR t k.route) s:=by
 have h2:authP t s (c++[k])=authP t s c++behS (pathR t k.route) s:=by
  unfold authP;rw[List.flatMap_append];simp
 refine⟨?_,h2⟩;rw[h2];clear h2
 induction c generalizing g with
 |nil=>rfl
 |cons x r ih=>
  rw[List.cons_append,authGo,authGo,ih];unfold authP;rw[List.flatMap_cons,List.cons_append];simp only[List.append_assoc]
end
section
open Go.RowKit
theorem flat_len {α:Type}{f:α->List Value}{k:Nat}(hf: ∀x,(f x).length=k)(l:List α):(l.flatMap f).length=l.length*k:=by
 induction l with
 |nil=>simp
 |cons x r ih=>rw[List.flatMap_cons,List.length_append,hf,ih,List.length_cons,Nat.succ_mul,Nat.add_comm]
theorem flat_at {α:Type}{f:α->List Value}{k:Nat}(hf: ∀x,(f x).length=k){l:List α}{j:Nat}{x:α}(hx:l[j]?=some x){i:Nat}(hi:i<k):(l.flatMap f)[j*k+i]?=(f x)[i]?:=by
 induction l generalizing j with
 |nil=>simp at hx
 |cons y r ih=>
  rw[List.flatMap_cons]
  cases j with
  |zero=>
   simp at hx;subst hx;rw[List.getElem?_append_left (by rw[hf];omega)];simp
  |succ m=>
   have e:(m+1)*k=m*k+k:=Nat.succ_mul m k;rw[List.getElem?_append_right (by rw[hf];omega),hf,show(m+1)*k+i-k=m*k+i by omega];exact ih (by simpa using hx)
def SlO {α:Type}(f:α->List Value)(k:Nat)(w:World)(A:Option Addr)(n c:Nat)(l:List α):Prop:=l.length=n/\Sl w k A n c (l.flatMap f)
theorem SlO.under {α:Type}{f:α->List Value}{k:Nat}{w w':World}{A:Option Addr}{n c:Nat}{l:List α}(h:SlO f k w A n c l)(hb:Below w.heap.size w w'):SlO f k w' A n c l:=⟨h.1,h.2.under hb⟩
theorem SlO.at_ {α:Type}{f:α->List Value}{k:Nat}{w:World}{A:Option Addr}{n c:Nat}{l:List α}(h:SlO f k w A n c l)(hf: ∀x,(f x).length=k)(hk:0<k){j:Nat}{x:α}(hx:l[j]?=some x):
  ∃b off,A=some ⟨b,off,none⟩/\ ∀i u,(f x)[i]?=some u->w.cell? ⟨b,off+j*k+i,none⟩=some u:=by
 obtain⟨u0,hu0⟩: ∃u,(f x)[0]?=some u:=⟨_,List.getElem?_eq_getElem (by rw[hf];exact hk)⟩
 obtain⟨b,off,e,_⟩:=h.2.at_ (j:=j*k+0) (u:=u0) (by rw[flat_at hf hx hk];exact hu0);refine⟨b,off,e,fun i u hu=>?_⟩;have hi:i<k:=by rw[<-hf x];exact(List.getElem?_eq_some_iff.1 hu).1
 obtain⟨b',off',e',hc⟩:=h.2.at_ (j:=j*k+i) (u:=u) (by rw[flat_at hf hx hi];exact hu);rw[e]at e';injection e' with e'
 injection e' with e1 e2 _
 subst e1 e2;rw[Nat.add_assoc];exact hc
theorem SlO.nil {α:Type}(f:α->List Value)(k:Nat)(w:World):SlO f k w none 0 0 []:=⟨rfl,sl_nil _ _⟩
def inC (x:Int):List Value:=[.int .i64 x]
def stC (s:St3):List Value:=[.int .i64 s.edge,.bool s.rev]
def jtC (j:Jt3):List Value:=[.int .i64 j.a.1,.int .i64 j.a.2,.int .i64 j.b.1,.int .i64 j.b.2]
def blC (b:Bl3):List Value:=[.int .i64 b.id,.int .i64 b.edge,.int .i64 b.at_]
def rtC (p:Rt3×Value):List Value:=[.int .i64 p.1.id,p.2,.int .i64 p.1.gap,.int .i64 p.1.timer]
def PathV (w:World)(v:Value)(path:List St3):Prop:= ∃A c,v= .slice A path.length c/\SlO stC 2 w A path.length c path
theorem PathV.under {w w':World}{v:Value}{path:List St3}(h:PathV w v path)(hb:Below w.heap.size w w'):PathV w' v path:=by
 obtain⟨A,c,e,hs⟩:=h;exact⟨A,c,e,hs.under hb⟩
def CapV (v:Value):Prop:= ∀A n c,v= .slice A n c->n<=c
def RtsR (w:World)(A:Option Addr)(n c:Nat)(rs:List Rt3):Prop:= ∃l:List (Rt3×Value),l.map (·.1)=rs/\SlO rtC 4 w A n c l/\ ∀p∈l,PathV w p.2 p.1.path/\CapV p.2
theorem RtsR.under {w w':World}{A:Option Addr}{n c:Nat}{rs:List Rt3}(h:RtsR w A n c rs)(hb:Below w.heap.size w w'):RtsR w' A n c rs:=by
 obtain⟨l,h1,h2,h3⟩:=h;exact⟨l,h1,h2.under hb,fun p hp=>⟨(h3 p hp).1.under hb,(h3 p hp).2⟩⟩
theorem RtsR.cap_at {w:World}{A:Option Addr}{n c:Nat}{rs:List Rt3}(h:RtsR w A n c rs){j:Nat}{r:Rt3}(hr:rs[j]?=some r):
  ∃b off PA pc,A=some ⟨b,off,none⟩/\SlO stC 2 w PA r.path.length pc r.path/\w.cell? ⟨b,off+j*4,none⟩=some (.int .i64 r.id)/\w.cell? ⟨b,off+j*4+1,none⟩=some (.slice PA r.path.length pc)/\w.cell? ⟨b,off+j*4+2,none⟩=some (.int .i64 r.gap)/\w.cell? ⟨b,off+j*4+3,none⟩=some (.int .i64 r.timer)/\r.path.length<=pc:=by
 obtain⟨l,rfl,h2,h3⟩:=h;rw[List.getElem?_map]at hr;obtain⟨p,hp,rfl⟩:=Option.map_eq_some_iff.1 hr;obtain⟨b,off,e,hc⟩:=h2.at_ (fun _=>rfl) (by decide) hp;obtain⟨⟨PA,pc,ev,hs⟩,hcv⟩:=h3 p (List.mem_of_getElem? hp);have hcap:=hcv _ _ _ ev;have h1:=hc 1 p.2 rfl;rw[ev]at h1;exact⟨b,off,PA,pc,e,hs,hc 0 _ rfl,h1,hc 2 _ rfl,hc 3 _ rfl,hcap⟩
theorem RtsR.at_ {w:World}{A:Option Addr}{n c:Nat}{rs:List Rt3}(h:RtsR w A n c rs){j:Nat}{r:Rt3}(hr:rs[j]?=some r):
  ∃b off PA pc,A=some ⟨b,off,none⟩/\SlO stC 2 w PA r.path.length pc r.path/\w.cell? ⟨b,off+j*4,none⟩=some (.int .i64 r.id)/\w.cell? ⟨b,off+j*4+1,none⟩=some (.slice PA r.path.length pc)/\w.cell? ⟨b,off+j*4+2,none⟩=some (.int .i64 r.gap)/\w.cell? ⟨b,off+j*4+3,none⟩=some (.int .i64 r.timer):=by
 obtain⟨b,off,PA,pc,h1,h2,h3,h4,h5,h6,_⟩:=h.cap_at hr;exact⟨b,off,PA,pc,h1,h2,h3,h4,h5,h6⟩
structure TpA where
 ae:Option Addr
 ce:Nat
 aj:Option Addr
 cj:Nat
 ab:Option Addr
 cb:Nat
 ar:Option Addr
 cr:Nat
def tpC (t:Tp3)(a:TpA):Array Value:=#[.slice a.ae t.edges.length a.ce,.slice a.aj t.joints.length a.cj,.slice a.ab t.bals.length a.cb,.slice a.ar t.routes.length a.cr]
structure TopR (w:World) (t:Tp3) (a:TpA):Prop where
 e:SlO inC 1 w a.ae t.edges.length a.ce t.edges
 j:SlO jtC 4 w a.aj t.joints.length a.cj t.joints
 b:SlO blC 3 w a.ab t.bals.length a.cb t.bals
 r:RtsR w a.ar t.routes.length a.cr t.routes
theorem TopR.under {w w':World}{t:Tp3}{a:TpA}(h:TopR w t a)(hb:Below w.heap.size w w'):TopR w' t a:=⟨h.e.under hb,h.j.under hb,h.b.under hb,h.r.under hb⟩
theorem light_nums13 {t:Tp3}(h:lightT t=true):t.edges.length<=100/\t.joints.length<=100/\t.bals.length<=100/\t.routes.length<=100/\ ∀r∈t.routes,r.path.length<=100:=by
 unfold lightT at h;simp only[Bool.and_eq_true,decide_eq_true_eq,List.all_eq_true]at h;exact h
theorem SlO.edge {w:World}{A:Option Addr}{n c:Nat}{l:List Int}(h:SlO inC 1 w A n c l){j:Nat}(hj:j<n): ∃b off,A=some ⟨b,off,none⟩/\w.cell? ⟨b,off+j,none⟩=some (.int .i64 (l.getD j 0)):=by
 have hl:j<l.length:=by rw[h.1];exact hj
 obtain⟨b,off,e,hc⟩:=h.at_ (fun _=>rfl) (by decide) (List.getElem?_eq_getElem hl);refine⟨b,off,e,?_⟩;rw[List.getD_eq_getElem?_getD,List.getElem?_eq_getElem hl];have:=hc 0 _ rfl
 simpa using this
theorem SlO.joint {w:World}{A:Option Addr}{n c:Nat}{l:List Jt3}(h:SlO jtC 4 w A n c l){j:Nat}{x:Jt3}(hx:l[j]?=some x):
  ∃b off,A=some ⟨b,off,none⟩/\w.cell? ⟨b,off+j*4,none⟩=some (.int .i64 x.a.1)/\w.cell? ⟨b,off+j*4+1,none⟩=some (.int .i64 x.a.2)/\w.cell? ⟨b,off+j*4+2,none⟩=some (.int .i64 x.b.1)/\w.cell? ⟨b,off+j*4+3,none⟩=some (.int .i64 x.b.2):=by
 obtain⟨b,off,e,hc⟩:=h.at_ (fun _=>rfl) (by decide) hx;exact⟨b,off,e,hc 0 _ rfl,hc 1 _ rfl,hc 2 _ rfl,hc 3 _ rfl⟩
theorem SlO.bal {w:World}{A:Option Addr}{n c:Nat}{l:List Bl3}(h:SlO blC 3 w A n c l){j:Nat}{x:Bl3}(hx:l[j]?=some x):
  ∃b off,A=some ⟨b,off,none⟩/\w.cell? ⟨b,off+j*3,none⟩=some (.int .i64 x.id)/\w.cell? ⟨b,off+j*3+1,none⟩=some (.int .i64 x.edge)/\w.cell? ⟨b,off+j*3+2,none⟩=some (.int .i64 x.at_):=by
 obtain⟨b,off,e,hc⟩:=h.at_ (fun _=>rfl) (by decide) hx;exact⟨b,off,e,hc 0 _ rfl,hc 1 _ rfl,hc 2 _ rfl⟩
theorem SlO.step {w:World}{A:Option Addr}{n c:Nat}{l:List St3}(h:SlO stC 2 w A n c l){j:Nat}{x:St3}(hx:l[j]?=some x):
  ∃b off,A=some ⟨b,off,none⟩/\w.cell? ⟨b,off+j*2,none⟩=some (.int .i64 x.edge)/\w.cell? ⟨b,off+j*2+1,none⟩=some (.bool x.rev):=by
 obtain⟨b,off,e,hc⟩:=h.at_ (fun _=>rfl) (by decide) hx;exact⟨b,off,e,hc 0 _ rfl,hc 1 _ rfl⟩
end
section
open Go.RowKit
open Go.Great
theorem run_eqNo13 {P:Program}(w:World)(d:Nat)(xs ys:Array Value)(f:Field)(fs:List Field)(a b:Value)(hn:f.name≠ "_")(ha:(part f.type xs f.offset).run P w= .ok a w)(hb:(part f.type ys f.offset).run P w= .ok b w)(he:(Op.equalIn d f.type a b).run P w= .ok false w):
  (Op.eqFields d xs ys (f::fs)).run P w= .ok false w:=by
 simp[Op.eqFields,hn,ha,hb,he]
def endA (a:Int×Int):Array Value:=#[.int .i64 a.1,.int .i64 a.2]
def stA13 (s:St3):Array Value:=#[.int .i64 s.edge,.bool s.rev]
def blA (b:Bl3):Array Value:=#[.int .i64 b.id,.int .i64 b.edge,.int .i64 b.at_]
theorem eq_end13 (a b:Int×Int)(W:World):(Op.equalIn 10000 147 (.agg (endA a)) (.agg (endA b))).run Tryz.prog W= .ok (eqE a b) W:=by
 rw[show(10000:Nat)=9999+1 from rfl,run_equalIn_struct W 9999 147 _ _ (by kernel_rfl) (by kernel_rfl)];simp only[Program.fieldsOf,Tryz.underlying147];unfold eqE endA;by_cases h0:a.1=b.1;rotate_left
 ·refine(run_eqNo13 W 9999 (endA a) (endA b) _ _ (.int .i64 a.1) (.int .i64 b.1) (by decide) (run_part1_11 W 3 (endA a) 0 (.int .i64 a.1) (by kernel_rfl) rfl) (run_part1_11 W 3 (endA b) 0 (.int .i64 b.1) (by kernel_rfl) rfl) (by rw[show(9999:Nat)=9998+1 from rfl,run_equalIn_int W 9998 3 .i64 .i64 _ _ Tryz.underlying3];simp[h0])).trans ?_
  have e:(a.1==b.1)=false:=by simp[h0]
  simp[e]
 refine(run_eqField11 W 9999 (endA a) (endA b) _ _ (.int .i64 a.1) (.int .i64 b.1) (by decide) (run_part1_11 W 3 (endA a) 0 (.int .i64 a.1) (by kernel_rfl) rfl) (run_part1_11 W 3 (endA b) 0 (.int .i64 b.1) (by kernel_rfl) rfl) (by rw[show(9999:Nat)=9998+1 from rfl,run_equalIn_int W 9998 3 .i64 .i64 _ _ Tryz.underlying3];simp[h0])).trans ?_;by_cases h1:a.2=b.2;rotate_left
 ·refine(run_eqNo13 W 9999 (endA a) (endA b) _ _ (.int .i64 a.2) (.int .i64 b.2) (by decide) (run_part1_11 W 3 (endA a) 1 (.int .i64 a.2) (by kernel_rfl) rfl) (run_part1_11 W 3 (endA b) 1 (.int .i64 b.2) (by kernel_rfl) rfl) (by rw[show(9999:Nat)=9998+1 from rfl,run_equalIn_int W 9998 3 .i64 .i64 _ _ Tryz.underlying3];simp[h1])).trans ?_
  have e:(a.2==b.2)=false:=by simp[h1]
  simp[e]
 refine(run_eqField11 W 9999 (endA a) (endA b) _ _ (.int .i64 a.2) (.int .i64 b.2) (by decide) (run_part1_11 W 3 (endA a) 1 (.int .i64 a.2) (by kernel_rfl) rfl) (run_part1_11 W 3 (endA b) 1 (.int .i64 b.2) (by kernel_rfl) rfl) (by rw[show(9999:Nat)=9998+1 from rfl,run_equalIn_int W 9998 3 .i64 .i64 _ _ Tryz.underlying3];simp[h1])).trans ?_;refine(run_eqDone11 W 9999 _ _).trans ?_;simp[h0,h1]
theorem plain_st13:Tryz.prog.eqGuardType Tryz.prog.depth 30=false:=by kernel_rfl
theorem eq_st13 (a b:St3)(W:World):(Op.equalIn 10000 30 (.agg (stA13 a)) (.agg (stA13 b))).run Tryz.prog W= .ok (eqS a b) W:=by
 rw[show(10000:Nat)=9999+1 from rfl,run_equalIn_struct W 9999 30 _ _ (by kernel_rfl) (by kernel_rfl)];simp only[Program.fieldsOf,Tryz.underlying30];unfold eqS stA13;by_cases h0:a.edge=b.edge;rotate_left
 ·refine(run_eqNo13 W 9999 (stA13 a) (stA13 b) _ _ (.int .i64 a.edge) (.int .i64 b.edge) (by decide) (run_part1_11 W 3 (stA13 a) 0 (.int .i64 a.edge) (by kernel_rfl) rfl) (run_part1_11 W 3 (stA13 b) 0 (.int .i64 b.edge) (by kernel_rfl) rfl) (by rw[show(9999:Nat)=9998+1 from rfl,run_equalIn_int W 9998 3 .i64 .i64 _ _ Tryz.underlying3];simp[h0])).trans ?_
  have e:(a.edge==b.edge)=false:=by simp[h0]
  simp[e]
 refine(run_eqField11 W 9999 (stA13 a) (stA13 b) _ _ (.int .i64 a.edge) (.int .i64 b.edge) (by decide) (run_part1_11 W 3 (stA13 a) 0 (.int .i64 a.edge) (by kernel_rfl) rfl) (run_part1_11 W 3 (stA13 b) 0 (.int .i64 b.edge) (by kernel_rfl) rfl) (by rw[show(9999:Nat)=9998+1 from rfl,run_equalIn_int W 9998 3 .i64 .i64 _ _ Tryz.underlying3];simp[h0])).trans ?_;by_cases h1:a.rev=b.rev;rotate_left
 ·refine(run_eqNo13 W 9999 (stA13 a) (stA13 b) _ _ (.bool a.rev) (.bool b.rev) (by decide) (run_part1_11 W 4 (stA13 a) 1 (.bool a.rev) (by kernel_rfl) rfl) (run_part1_11 W 4 (stA13 b) 1 (.bool b.rev) (by kernel_rfl) rfl) (by rw[show(9999:Nat)=9998+1 from rfl,run_equalIn_bool' W 9998 4 _ _ Tryz.underlying4];simp[h1])).trans ?_
  have e:(a.rev==b.rev)=false:=by simp[h1]
  simp[e]
 refine(run_eqField11 W 9999 (stA13 a) (stA13 b) _ _ (.bool a.rev) (.bool b.rev) (by decide) (run_part1_11 W 4 (stA13 a) 1 (.bool a.rev) (by kernel_rfl) rfl) (run_part1_11 W 4 (stA13 b) 1 (.bool b.rev) (by kernel_rfl) rfl) (by rw[show(9999:Nat)=9998+1 from rfl,run_equalIn_bool' W 9998 4 _ _ Tryz.underlying4];simp[h1])).trans ?_;refine(run_eqDone11 W 9999 _ _).trans ?_;simp[h0,h1]
theorem eql_st13 (a b:St3)(W:World):(binOp .eql 30 (.agg (stA13 a)) (.agg (stA13 b))).run Tryz.prog W= .ok (.bool (eqS a b)) W:=by
 rw[run_eql_struct,eq_st13];rfl
theorem neq_st13 (a b:St3)(W:World):(binOp .neq 30 (.agg (stA13 a)) (.agg (stA13 b))).run Tryz.prog W= .ok (.bool (!eqS a b)) W:=by
 rw[run_neq_struct,eq_st13];rfl
end
section
open Go.RowKit
open Go.Great
theorem find_at13 {α:Type}{p:α->Bool}{l:List α}{i:Nat}{x:α}(hx:l[i]?=some x)(hp:p x=true)(hno: ∀m y,m<i->l[m]?=some y->p y=false):l.find? p=some x:=by
 induction l generalizing i with
 |nil=>simp at hx
 |cons a r ih=>
  cases i with
  |zero=>
   simp at hx;subst hx;exact List.find?_cons_of_pos hp
  |succ k=>
   rw[List.find?_cons_of_neg (by rw[hno 0 a (by omega) rfl];decide)];exact ih (i:=k) (by simpa using hx) fun m y hm hy=>hno (m+1) y (by omega) (by simpa using hy)
theorem find_none13 {α:Type}{p:α->Bool}{l:List α}(hno: ∀m y,m<l.length->l[m]?=some y->p y=false):l.find? p=none:=by
 rw[List.find?_eq_none];intro y hy;obtain⟨m,hm,rfl⟩:=List.getElem_of_mem hy;rw[hno m _ hm (List.getElem?_eq_getElem hm)]
 decide
instance : DecidableEq St3 := fun a b => decidable_of_iff (eqS a b = true) (eqS_iff a b)
theorem RtsR.at2 {w w':World}{A:Option Addr}{n c:Nat}{rs:List Rt3}(h:RtsR w A n c rs)(hb:Below w.heap.size w w'){j:Nat}{r:Rt3}(hr:rs[j]?=some r):
  ∃b off PA pc,A=some ⟨b,off,none⟩/\SlO stC 2 w PA r.path.length pc r.path/\w'.cell? ⟨b,off+j*4,none⟩=some (.int .i64 r.id)/\w'.cell? ⟨b,off+j*4+1,none⟩=some (.slice PA r.path.length pc)/\w'.cell? ⟨b,off+j*4+2,none⟩=some (.int .i64 r.gap)/\w'.cell? ⟨b,off+j*4+3,none⟩=some (.int .i64 r.timer):=by
 obtain⟨l,rfl,h2,h3⟩:=h;rw[List.getElem?_map]at hr;obtain⟨p,hp,rfl⟩:=Option.map_eq_some_iff.1 hr;obtain⟨b,off,e,hc⟩:=(h2.under hb).at_ (fun _=>rfl) (by decide) hp;obtain⟨⟨PA,pc,ev,hs⟩,_⟩:=h3 p (List.mem_of_getElem? hp);have h1:=hc 1 p.2 rfl;rw[ev]at h1;exact⟨b,off,PA,pc,e,hs,hc 0 _ rfl,h1,hc 2 _ rfl,hc 3 _ rfl⟩
def rtA (r:Rt3)(v:Value):Array Value:=#[.int .i64 r.id,v,.int .i64 r.gap,.int .i64 r.timer]
def balR (t:Tp3)(id:Int):Bl3:=(balF t id).getD ⟨0,0,0⟩
def routeR (t:Tp3)(id:Int):Rt3:=(routeF t id).getD ⟨0,[],0,0⟩
theorem rbal_any (t:Tp3)(a:TpA)(id:Int)(w:World)(ht:TopR w t a)(hn:t.bals.length<=1048576):
  Calls Tryz.prog 119 #[.agg (tpC t a),.int .i64 id] w fun e w'=>e= .returned (.tuple #[.agg (blA (balR t id)),.bool (balF t id).isSome])/\Below w.heap.size w w':=by
 obtain⟨wa,hwa,hbwa,HWA,HBWA,h0,h1⟩:=bx2Z w 27 (tpC t a) 151 #[.int .i64 0,.int .i64 0,.int .i64 0];have HS:=zq (ht.under hbwa).b;have HZ:=zq h1;have c2:wa.cell? ⟨w.heap.size,2,none⟩=some (.slice a.ab t.bals.length a.cb):=h0.cell 2;clear hwa hbwa h0 h1 ht;obtain⟨n,hnn⟩:=geZ (t.bals.length);have HN:=zq hnn;rw[hnn]at hn c2;clear hnn;go_enter Tryz.func119,Tryz.ntmps119;go_upto_region 1 with fail;rw[HWA.out];clear HWA;go_wp2;go_loopg [6] n (fun kk v wl=> ∃i:Nat,i<=n/\n-i<=kk/\v= .int .i64 i/\Hid (∀m y,m<i->t.bals[m]?=some y->(y.id==id)=false)/\wl=wa)
 case atStart=>exact⟨0,by omega,by omega,rfl,zq fun m y h=>absurd h (by omega),rfl⟩
 obtain⟨i,hi,hik,rfl,HNO,rfl⟩:=hrel;by_cases hlt:i<n;rotate_left
 ·have x1: ¬(i:Int)<n:=by omega
  have HF:=zq (show balF t id=none from find_none13 fun m y hm hy=>HNO.out m y (by have:=HN.out;omega) hy);have HR:=zq (has_row11 HZ.out #[.int .i64 0,.int .i64 0,.int .i64 0]);have HBF:=zq (below_row (g:=w.heap.size+1) HBWA.out (by omega) #[.int .i64 0,.int .i64 0,.int .i64 0]);go_wp2_with (with_reducible refine stZ #[.int .i64 0,.int .i64 0,.int .i64 0] HZ.out ?_);refine rtZ HR.out ?_;have e1_:balR t id=⟨0,0,0⟩:=by unfold balR;rw[HF.out];rfl
  have e2_:(balF t id).isSome=false:=by rw[HF.out];rfl
  rw[e1_,e2_];exact⟨rfl,HBF.out⟩
 obtain⟨x,hx⟩: ∃x,t.bals[i]?=some x:=⟨_,List.getElem?_eq_getElem (by rw[HN.out];omega)⟩
 have HX:=zq hx;obtain⟨bk,off,hab,d0,d1,d2⟩:=HS.out.bal hx;rw[hab]at c2;have y0:(0:Int)<=i:=by omega
 have y1:(i:Int)<n:=by omega
 obtain⟨u,hu⟩:=geZ (x.id);have HU:=zq hu;rw[hu]at d0;clear hx hu;by_cases hui:u=id
 ·subst hui
  have HF:=zq (show balF t u=some x from find_at13 HX.out (by show(x.id==u)=true;rw[HU.out];simp) HNO.out);have HR:=zq (has_row11 HZ.out #[.int .i64 u,.int .i64 x.edge,.int .i64 x.at_]);have HBF:=zq (below_row (g:=w.heap.size+1) HBWA.out (by omega) #[.int .i64 u,.int .i64 x.edge,.int .i64 x.at_]);go_wp2_with (with_reducible refine stZ #[.int .i64 u,.int .i64 x.edge,.int .i64 x.at_] HZ.out ?_);refine rtZ HR.out ?_;have e1_:balR t u=x:=by unfold balR;rw[HF.out];rfl
  have e2_:(balF t u).isSome=true:=by rw[HF.out];rfl
  rw[e1_,e2_];unfold blA;rw[HU.out];exact⟨rfl,HBF.out⟩
 have e1:(u==id)=false:=by simp[hui]
 go_wp2;go_roundg (gk-1)
 case measure=>omega
 case rel=>
  refine⟨i+1,by omega,by omega,by go_num,zq (fun m y hm hy=>?_),rfl⟩;by_cases hmi:m=i
  ·subst hmi
   rw[HX.out]at hy;injection hy with hy
   rw[<-hy,HU.out];exact e1
  ·exact HNO.out m y (by omega) hy
theorem rroute_any (t:Tp3)(a:TpA)(id:Int)(w:World)(ht:TopR w t a)(hn:t.routes.length<=1048576):
  Calls Tryz.prog 51 #[.agg (tpC t a),.int .i64 id] w fun e w'=> ∃v,PathV w' v (routeR t id).path/\e= .returned (.tuple #[.agg (rtA (routeR t id) v),.bool (routeF t id).isSome])/\Below w.heap.size w w':=by
 obtain⟨wa,hwa,hbwa,HWA,HBWA,h0,h1⟩:=bx2Z w 27 (tpC t a) 75 #[.int .i64 0,.slice none 0 0,.int .i64 0,.int .i64 0];have HS:=zq ht.r;have HZ:=zq h1;have c2:wa.cell? ⟨w.heap.size,3,none⟩=some (.slice a.ar t.routes.length a.cr):=h0.cell 3;clear hwa hbwa h0 h1 ht;obtain⟨n,hnn⟩:=geZ (t.routes.length);have HN:=zq hnn;rw[hnn]at hn c2;clear hnn;go_enter Tryz.func51,Tryz.ntmps51;go_upto_region 1 with fail;rw[HWA.out];clear HWA;go_wp2;go_loopg [6] n (fun kk v wl=> ∃i:Nat,i<=n/\n-i<=kk/\v= .int .i64 i/\Hid (∀m y,m<i->t.routes[m]?=some y->(y.id==id)=false)/\wl=wa)
 case atStart=>exact⟨0,by omega,by omega,rfl,zq fun m y h=>absurd h (by omega),rfl⟩
 obtain⟨i,hi,hik,rfl,HNO,rfl⟩:=hrel;by_cases hlt:i<n;rotate_left
 ·have x1: ¬(i:Int)<n:=by omega
  have HF:=zq (show routeF t id=none from find_none13 fun m y hm hy=>HNO.out m y (by have:=HN.out;omega) hy);have HR:=zq (has_row11 HZ.out #[.int .i64 0,.slice none 0 0,.int .i64 0,.int .i64 0]);have HBF:=zq (below_row (g:=w.heap.size+1) HBWA.out (by omega) #[.int .i64 0,.slice none 0 0,.int .i64 0,.int .i64 0]);go_wp2_with (with_reducible refine stZ #[.int .i64 0,.slice none 0 0,.int .i64 0,.int .i64 0] HZ.out ?_);refine rtZ HR.out ?_;have e1_:routeR t id=⟨0,[],0,0⟩:=by unfold routeR;rw[HF.out];rfl
  have e2_:(routeF t id).isSome=false:=by rw[HF.out];rfl
  rw[e1_,e2_];exact⟨.slice none 0 0,⟨none,0,rfl,SlO.nil _ _ _⟩,rfl,HBF.out⟩
 obtain⟨x,hx⟩: ∃x,t.routes[i]?=some x:=⟨_,List.getElem?_eq_getElem (by rw[HN.out];omega)⟩
 have HX:=zq hx;obtain⟨bk,off,PA,pc,hab,hpa,d0,d1,d2,d3⟩:=HS.out.at2 HBWA.out hx;have HPA:=zq hpa;clear hpa;rw[hab]at c2;have y0:(0:Int)<=i:=by omega
 have y1:(i:Int)<n:=by omega
 obtain⟨u,hu⟩:=geZ (x.id);have HU:=zq hu;rw[hu]at d0;clear hx hu;by_cases hui:u=id
 ·subst hui
  have HF:=zq (show routeF t u=some x from find_at13 HX.out (by show(x.id==u)=true;rw[HU.out];simp) HNO.out);have HR:=zq (has_row11 HZ.out #[.int .i64 u,.slice PA x.path.length pc,.int .i64 x.gap,.int .i64 x.timer]);have HBF:=zq (below_row (g:=w.heap.size+1) HBWA.out (by omega) #[.int .i64 u,.slice PA x.path.length pc,.int .i64 x.gap,.int .i64 x.timer]);go_wp2_with (with_reducible refine stZ #[.int .i64 u,.slice PA x.path.length pc,.int .i64 x.gap,.int .i64 x.timer] HZ.out ?_);refine rtZ HR.out ?_;have e1_:routeR t u=x:=by unfold routeR;rw[HF.out];rfl
  have e2_:(routeF t u).isSome=true:=by rw[HF.out];rfl
  rw[e1_,e2_];unfold rtA;rw[HU.out];exact⟨.slice PA x.path.length pc,⟨PA,pc,rfl,HPA.out.under HBF.out⟩,rfl,HBF.out⟩
 have e1:(u==id)=false:=by simp[hui]
 go_wp2;go_roundg (gk-1)
 case measure=>omega
 case rel=>
  refine⟨i+1,by omega,by omega,by go_num,zq (fun m y hm hy=>?_),rfl⟩;by_cases hmi:m=i
  ·subst hmi
   rw[HX.out]at hy;injection hy with hy
   rw[<-hy,HU.out];exact e1
  ·exact HNO.out m y (by omega) hy
theorem rsteps_any (A B:Option Addr)(n c m d:Nat)(la lb:List St3)(w:World)(ha:SlO stC 2 w A n c la)(hb:SlO stC 2 w B m d lb)(hn:n<=1048576):
  Calls Tryz.prog 30 #[.slice A n c,.slice B m d] w fun e w'=>e= .returned (.bool (decide (la=lb)))/\Below w.heap.size w w':=by
 have HA:=zq ha;have HB:=zq hb;clear ha hb;obtain⟨q,hq⟩:=geZ (decide (la=lb));have HQ:=zq hq;rw[hq];clear hq;by_cases hnm:n=m;rotate_left
 ·have hqf:q=false:=by
   rw[<-HQ.out];refine decide_eq_false fun h=>hnm ?_;rw[<-HA.out.1,<-HB.out.1,h]
  have e1:((n:Int)==(m:Int))=false:=by simp;omega
  have e2:((n:Int) !=(m:Int))=true:=by simp;omega
  go_enter Tryz.func30,Tryz.ntmps30;go_wp2;go_ret
  exact⟨by first|rfl|(rw[hqf];rfl)|rw[hqf],Below.refl _ _⟩
 subst hnm;have HBA:=zq (Below.refl w.heap.size w);go_enter Tryz.func30,Tryz.ntmps30;go_wp2;go_loopg [5] n (fun kk v wl=> ∃i k:Nat,i<=n/\n-i<=kk/\v= .int .i64 i/\Hid (∀j,j<i->la[j]?=lb[j]?)/\wl=w.drewN k)
 case atStart=>exact⟨0,0,by omega,by omega,rfl,zq fun j h=>absurd h (by omega),rfl⟩
 obtain⟨i,k,hi,hik,rfl,HEQ,rfl⟩:=hrel;by_cases hlt:i<n;rotate_left
 ·have hqf:q=true:=by
   rw[<-HQ.out];refine decide_eq_true (List.ext_getElem? fun j=>?_);by_cases hj:j<i
   ·exact HEQ.out j hj
   ·rw[List.getElem?_eq_none (by rw[HA.out.1];omega),List.getElem?_eq_none (by rw[HB.out.1];omega)]
  have x1: ¬(i:Int)<n:=by omega
  go_wp2;go_ret
  exact⟨by first|rfl|(rw[hqf];rfl)|rw[hqf],below_draws (Below.refl _ _) k⟩
 obtain⟨x,hx⟩:=glZ la (i) (by rw[HA.out.1];omega);obtain⟨y,hy⟩:=glZ lb (i) (by rw[HB.out.1];omega);have HX:=zq hx;have HY:=zq hy;obtain⟨b1,o1,rfl,d0,d1⟩:=HA.out.step hx;obtain⟨b2,o2,rfl,f0,f1⟩:=HB.out.step hy;clear hx hy;have y0:(0:Int)<=i:=by omega
 have y1:(i:Int)<n:=by omega
 have q1:=eq_st13 x y;obtain⟨e1,he1⟩: ∃e,eqS x y=e:=⟨_,rfl⟩
 have HE:=zq he1;rw[he1]at q1;clear he1;unfold stA13 at q1;go_upto_region 6 with fail
 cases e1 with
 |false=>
  go_quiet (fail);go_wp2;go_ret
  have hqf:q=false:=by
   rw[<-HQ.out];refine decide_eq_false fun h=>?_;have h_:=HX.out;rw[h,HY.out]at h_;injection h_ with h_
   have he:=HE.out;rw[h_,(eqS_iff x x).2 rfl]at he
   cases he
  exact⟨by first|rfl|(rw[hqf];rfl)|rw[hqf],by first|exact below_draws (Below.refl _ _) _|(rw[World.drewN_drewN];exact below_draws (Below.refl _ _) _)⟩
 |true=>
  go_quiet (fail);go_wp2;go_roundg (gk-1)
  case measure=>omega
  case rel=>
   refine⟨i+1,_,by omega,by omega,by go_num,zq (fun j hj=>?_),by first|rfl|rw[World.drewN_drewN]⟩;by_cases hji:j=i
   ·rw[hji,HX.out,HY.out,(eqS_iff x y).1 HE.out]
   ·exact HEQ.out j (by omega)
theorem rlight_any13 (t:Tp3)(a:TpA)(w:World)(ht:TopR w t a):
  Calls Tryz.prog 10 #[.agg (tpC t a)] w fun e w'=>e= .returned (.bool (lightT t))/\Below w.heap.size w w':=by
 obtain⟨wa,hwa,hbwa,HWA,HBWA,h0⟩:=bx1Z w 27 (tpC t a);have HS:=zq (ht.under hbwa).r;have c0:wa.cell? ⟨w.heap.size,0,none⟩=some (.slice a.ae t.edges.length a.ce):=h0.cell 0;have c1:wa.cell? ⟨w.heap.size,1,none⟩=some (.slice a.aj t.joints.length a.cj):=h0.cell 1;have c2:wa.cell? ⟨w.heap.size,2,none⟩=some (.slice a.ab t.bals.length a.cb):=h0.cell 2;have c3:wa.cell? ⟨w.heap.size,3,none⟩=some (.slice a.ar t.routes.length a.cr):=h0.cell 3;clear hwa hbwa h0 ht;obtain⟨q,hq⟩:=geZ (lightT t);have HQ:=zq hq;rw[hq];unfold lightT at hq;obtain⟨n0,hn0⟩: ∃n,t.edges.length=n:=⟨_,rfl⟩
 rw[hn0]at c0 hq;obtain⟨n1,hn1⟩: ∃n,t.joints.length=n:=⟨_,rfl⟩
 rw[hn1]at c1 hq;obtain⟨n2,hn2⟩: ∃n,t.bals.length=n:=⟨_,rfl⟩
 rw[hn2]at c2 hq;obtain⟨n3,hn3⟩: ∃n,t.routes.length=n:=⟨_,rfl⟩
 rw[hn3]at c3 hq;have HN:=zq hn3;clear hn0 hn1 hn2 hn3;by_cases k0:100<n0
 ·have hqf:q=false:=by rw[<-hq,decide_eq_false (show¬n0<=100 by omega)];simp
  have x0:(100:Int)<n0:=by omega
  clear hq;go_enter Tryz.func10,Tryz.ntmps10;go_upto_region 1 with fail;rw[HWA.out];clear HWA;go_wp2;go_ret
  exact⟨by first|rfl|(rw[hqf];rfl)|rw[hqf],HBWA.out⟩
 have x0: ¬(100:Int)<n0:=by omega
 by_cases k1:100<n1
 ·have hqf:q=false:=by rw[<-hq,decide_eq_false (show¬n1<=100 by omega)];simp
  have x1:(100:Int)<n1:=by omega
  clear hq;go_enter Tryz.func10,Tryz.ntmps10;go_upto_region 1 with fail;rw[HWA.out];clear HWA;go_wp2;go_ret
  exact⟨by first|rfl|(rw[hqf];rfl)|rw[hqf],HBWA.out⟩
 have x1: ¬(100:Int)<n1:=by omega
 by_cases k2:100<n2
 ·have hqf:q=false:=by rw[<-hq,decide_eq_false (show¬n2<=100 by omega)];simp
  have x2:(100:Int)<n2:=by omega
  clear hq;go_enter Tryz.func10,Tryz.ntmps10;go_upto_region 1 with fail;rw[HWA.out];clear HWA;go_wp2;go_ret
  exact⟨by first|rfl|(rw[hqf];rfl)|rw[hqf],HBWA.out⟩
 have x2: ¬(100:Int)<n2:=by omega
 by_cases k3:100<n3
 ·have hqf:q=false:=by rw[<-hq,decide_eq_false (show¬n3<=100 by omega)];simp
  have x3:(100:Int)<n3:=by omega
  clear hq;go_enter Tryz.func10,Tryz.ntmps10;go_upto_region 1 with fail;rw[HWA.out];clear HWA;go_wp2;go_ret
  exact⟨by first|rfl|(rw[hqf];rfl)|rw[hqf],HBWA.out⟩
 have x3: ¬(100:Int)<n3:=by omega
 rw[decide_eq_true (show n0<=100 by omega),decide_eq_true (show n1<=100 by omega),decide_eq_true (show n2<=100 by omega),decide_eq_true (show n3<=100 by omega),Bool.true_and,Bool.true_and,Bool.true_and,Bool.true_and]at hq;have HQ2:=zq hq;clear hq k0 k1 k2;go_enter Tryz.func10,Tryz.ntmps10;go_upto_region 1 with fail;rw[HWA.out];clear HWA;go_upto_region 3 with fail;clear x0 x1 x2 x3 c0 c1 c2;go_wp2;go_loopg [3] n3 (fun kk v wl=> ∃i:Nat,i<=n3/\n3-i<=kk/\v= .int .i64 i/\Hid (∀m y,m<i->t.routes[m]?=some y->y.path.length<=100)/\wl=wa)
 case atStart=>exact⟨0,by omega,by omega,rfl,zq fun m y h=>absurd h (by omega),rfl⟩
 obtain⟨i,hi,hik,rfl,HNO,rfl⟩:=hrel;by_cases hlt:i<n3;rotate_left
 ·have x1: ¬(i:Int)<n3:=by omega
  have hqf:q=true:=by
   rw[<-HQ2.out,List.all_eq_true];intro r hr;obtain⟨m,hm,rfl⟩:=List.getElem_of_mem hr;exact decide_eq_true (HNO.out m _ (by have:=HN.out;omega) (List.getElem?_eq_getElem hm))
  go_wp2;go_ret
  exact⟨by first|rfl|(rw[hqf];rfl)|rw[hqf],HBWA.out⟩
 obtain⟨x,hx⟩: ∃x,t.routes[i]?=some x:=⟨_,List.getElem?_eq_getElem (by rw[HN.out];omega)⟩
 have HX:=zq hx;obtain⟨bk,off,PA,pc,hab,-,-,d1,-,-⟩:=HS.out.at_ hx;rw[hab]at c3;have y0:(0:Int)<=i:=by omega
 have y1:(i:Int)<n3:=by omega
 obtain⟨u,hu⟩:=geZ (x.path.length);have HU:=zq hu;rw[hu]at d1;clear hx hu hab;by_cases hu:100<u
 ·have x1:(100:Int)<u:=by omega
  have hqf:q=false:=by
   rw[<-HQ2.out,List.all_eq_false];exact⟨x,List.mem_of_getElem? HX.out,by rw[HU.out];simp;omega⟩
  go_wp2;go_ret
  exact⟨by first|rfl|(rw[hqf];rfl)|rw[hqf],HBWA.out⟩
 have x1: ¬(100:Int)<u:=by omega
 go_wp2;go_roundg (gk-1)
 case measure=>omega
 case rel=>
  refine⟨i+1,by omega,by omega,by go_num,zq (fun m y hm hy=>?_),rfl⟩;by_cases hmi:m=i
  ·rw[hmi,HX.out]at hy
   injection hy with hy
   rw[<-hy,HU.out];omega
  ·exact HNO.out m y (by omega) hy
end
section
open Go.ChangeShapes Go.WideShapes Go.ChangeAt Go.RowKit Go.Deep Go.Joins
instance inhO13 : Inhabited St3 := ⟨⟨0, false⟩⟩
instance : Inhabited Jt3 := ⟨⟨(0, 0), (0, 0)⟩⟩
instance : Inhabited Bl3 := ⟨⟨0, 0, 0⟩⟩
instance : Inhabited (Rt3 × Value) := ⟨(⟨0, [], 0, 0⟩, .bool false)⟩
theorem slo_open13 {α:Type}[Inhabited α]{f:α->List Value}{k:Nat}(hk:0<k)(hfl: ∀x,(f x).length=k){ts te:TypeId}(hu:Tryz.prog.underlying ts=some (.slice te))(hc:Tryz.prog.cellsOf te=k){H:Type}{enc:TypeId×Value->H}{W:World}{Q:α->Prop}
  (hel: ∀fuel cs y,cs.length=k->DataW.trod enc Tryz.prog W 0 (fun _=>true) true fuel te cs=some y-> ∃x:α,cs=f x/\Q x) {fuel:Nat} {v:Value} {y:DataW H×List MemPlace} (h:DataW.trod enc Tryz.prog W 0 (fun _=>true) true fuel ts [v]=some y):
  ∃(A:Option Addr) (c:Nat) (l:List α),v= .slice A l.length c/\SlO f k W A l.length c l/\l.length<=c/\ ∀x∈l,Q x:=by
 rcases open_slice hu h with⟨hcs,_⟩|⟨a,len,cap,m,q,D,Pl,hcs,_,hl,hm,hmm,_,hx⟩
 ·simp at hcs
  exact⟨none,0,[],hcs,SlO.nil f k W,Nat.le_refl _,fun x h=>by cases h⟩
 ·simp at hcs
  have hlm:len<=m:=by rw[hmm];split<;>omega
  have each: ∀i,i<len-> ∃x:α,(∀j u,(f x)[j]?=some u->W.cell? (a.add (i*k+j))=some u)/\Q x:=by
   intro i hi;obtain⟨cs',h1,h2⟩:=hx i (by omega);rw[hc]at h1;obtain⟨_,hlen,hcell⟩:=World.cells?_some h1;obtain⟨x,rfl,hq⟩:=hel _ cs' _ hlen h2;refine⟨x,fun j u hu=>?_,hq⟩;have hj:j<k:=by rw[<-hfl x];exact(List.getElem?_eq_some_iff.1 hu).1
   have hc2:=hcell j (by omega);rw[add_add]at hc2;rw[hc2,<-hu]
  obtain⟨g,hg⟩:=choose_lt (α:=α) each;have hln:((List.range len).map g).length=len:=by simp
  have hsl:Sl W k (some a) len cap (((List.range len).map g).flatMap f):=by
   refine⟨by rw[flat_len hfl,hln],(fun e=>by cases e),fun ad ha j u hu=>?_⟩
   cases ha
   have hjl:j<len*k:=by
    have:=(List.getElem?_eq_some_iff.1 hu).1;rw[flat_len hfl,hln]at this;exact this
   have hi:j/k<len:=Nat.div_lt_of_lt_mul (by rw[Nat.mul_comm];exact hjl);have e:j/k*k+j %k=j:=by rw[Nat.mul_comm];exact Nat.div_add_mod j k
   have hmk:j %k<k:=Nat.mod_lt _ hk;have hgi:((List.range len).map g)[j/k]?=some (g (j/k)):=by simp[hi]
   rw[<-e]at hu⊢;rw[flat_at hfl hgi hmk]at hu;exact(hg (j/k) hi).1 _ _ hu
  refine⟨some a,cap,(List.range len).map g,by rw[hln];exact hcs,by rw[hln];exact⟨hln,hsl⟩,by rw[hln];exact hl,fun x hx=>?_⟩;obtain⟨i,hi,rfl⟩:=List.mem_map.1 hx;exact(hg i (by simpa using hi)).2
section
variable {H:Type} {enc:TypeId×Value->H} {W:World}
theorem el_int13 (fuel:Nat)(cs:List Value)(y:DataW H×List MemPlace)(hl:cs.length=1)(h:DataW.trod enc Tryz.prog W 0 (fun _=>true) true fuel 3 cs=some y): ∃x:Int,cs=inC x/\True:=by
 match cs,hl with
 |[v],_=>
  obtain⟨a,e,_,_⟩:=DataW.trod_int Tryz.underlying3 h;simp at e;subst e;exact⟨a,rfl,trivial⟩
theorem el_end13 (fuel:Nat)(cs:List Value)(y:DataW H×List MemPlace)(hl:cs.length=2)(h:DataW.trod enc Tryz.prog W 0 (fun _=>true) true fuel 147 cs=some y): ∃x:Int×Int,cs=[.int .i64 x.1,.int .i64 x.2]:=by
 have kI:Tryz.prog.cellsOf 3=1:=by kernel_rfl
 obtain⟨xs,n,_,_,_,hxl,hg⟩:=DataW.trod_struct Tryz.underlying147 h
 match cs,hl,xs,hxl with
 |[v0,v1],_,[y0,y1],_=>
  have g0:DataW.trod enc Tryz.prog W 0 (fun _=>true) true n 3 [v0]=some y0:=by simpa[kI]using hg 0 _ rfl
  have g1:DataW.trod enc Tryz.prog W 0 (fun _=>true) true n 3 [v1]=some y1:=by simpa[kI]using hg 1 _ rfl
  obtain⟨a0,e0,_,_⟩:=DataW.trod_int Tryz.underlying3 g0;obtain⟨a1,e1,_,_⟩:=DataW.trod_int Tryz.underlying3 g1;simp at e0 e1;subst e0 e1;exact⟨(a0,a1),rfl⟩
theorem el_joint13 (fuel:Nat)(cs:List Value)(y:DataW H×List MemPlace)(hl:cs.length=4)(h:DataW.trod enc Tryz.prog W 0 (fun _=>true) true fuel 149 cs=some y): ∃x:Jt3,cs=jtC x/\True:=by
 have kE:Tryz.prog.cellsOf 147=2:=by kernel_rfl
 obtain⟨xs,n,_,_,_,hxl,hg⟩:=DataW.trod_struct Tryz.underlying149 h
 match cs,hl,xs,hxl with
 |[v0,v1,v2,v3],_,[y0,y1],_=>
  have g0:DataW.trod enc Tryz.prog W 0 (fun _=>true) true n 147 [v0,v1]=some y0:=by simpa[kE]using hg 0 _ rfl
  have g1:DataW.trod enc Tryz.prog W 0 (fun _=>true) true n 147 [v2,v3]=some y1:=by simpa[kE]using hg 1 _ rfl
  obtain⟨a0,e0⟩:=el_end13 _ _ _ rfl g0;obtain⟨a1,e1⟩:=el_end13 _ _ _ rfl g1;simp at e0 e1;obtain⟨rfl,rfl⟩:=e0;obtain⟨rfl,rfl⟩:=e1;exact⟨⟨a0,a1⟩,rfl,trivial⟩
theorem el_bal13 (fuel:Nat)(cs:List Value)(y:DataW H×List MemPlace)(hl:cs.length=3)(h:DataW.trod enc Tryz.prog W 0 (fun _=>true) true fuel 151 cs=some y): ∃x:Bl3,cs=blC x/\True:=by
 have kI:Tryz.prog.cellsOf 3=1:=by kernel_rfl
 obtain⟨xs,n,_,_,_,hxl,hg⟩:=DataW.trod_struct Tryz.underlying151 h
 match cs,hl,xs,hxl with
 |[v0,v1,v2],_,[y0,y1,y2],_=>
  have g0:DataW.trod enc Tryz.prog W 0 (fun _=>true) true n 3 [v0]=some y0:=by simpa[kI]using hg 0 _ rfl
  have g1:DataW.trod enc Tryz.prog W 0 (fun _=>true) true n 3 [v1]=some y1:=by simpa[kI]using hg 1 _ rfl
  have g2:DataW.trod enc Tryz.prog W 0 (fun _=>true) true n 3 [v2]=some y2:=by simpa[kI]using hg 2 _ rfl
  obtain⟨a0,e0,_,_⟩:=DataW.trod_int Tryz.underlying3 g0;obtain⟨a1,e1,_,_⟩:=DataW.trod_int Tryz.underlying3 g1;obtain⟨a2,e2,_,_⟩:=DataW.trod_int Tryz.underlying3 g2;simp at e0 e1 e2;subst e0 e1 e2;exact⟨⟨a0,a1,a2⟩,rfl,trivial⟩
theorem el_step13 (fuel:Nat)(cs:List Value)(y:DataW H×List MemPlace)(hl:cs.length=2)(h:DataW.trod enc Tryz.prog W 0 (fun _=>true) true fuel 30 cs=some y): ∃x:St3,cs=stC x/\True:=by
 have kI:Tryz.prog.cellsOf 3=1:=by kernel_rfl
 have kB:Tryz.prog.cellsOf 4=1:=by kernel_rfl
 obtain⟨xs,n,_,_,_,hxl,hg⟩:=DataW.trod_struct Tryz.underlying30 h
 match cs,hl,xs,hxl with
 |[v0,v1],_,[y0,y1],_=>
  have g0:DataW.trod enc Tryz.prog W 0 (fun _=>true) true n 3 [v0]=some y0:=by simpa[kI]using hg 0 _ rfl
  have g1:DataW.trod enc Tryz.prog W 0 (fun _=>true) true n 4 [v1]=some y1:=by simpa[kB]using hg 1 _ rfl
  obtain⟨a0,e0,_,_⟩:=DataW.trod_int Tryz.underlying3 g0;obtain⟨a1,e1,_⟩:=DataW.trod_bool Tryz.underlying4 g1;simp at e0 e1;subst e0 e1;exact⟨⟨a0,a1⟩,rfl,trivial⟩
theorem el_route13 (fuel:Nat)(cs:List Value)(y:DataW H×List MemPlace)(hl:cs.length=4)(h:DataW.trod enc Tryz.prog W 0 (fun _=>true) true fuel 75 cs=some y): ∃x:Rt3×Value,cs=rtC x/\(PathV W x.2 x.1.path/\CapV x.2):=by
 have kI:Tryz.prog.cellsOf 3=1:=by kernel_rfl
 have kS:Tryz.prog.cellsOf 35=1:=by kernel_rfl
 obtain⟨xs,n,_,_,_,hxl,hg⟩:=DataW.trod_struct Tryz.underlying75 h
 match cs,hl,xs,hxl with
 |[v0,v1,v2,v3],_,[y0,y1,y2,y3],_=>
  have g0:DataW.trod enc Tryz.prog W 0 (fun _=>true) true n 3 [v0]=some y0:=by simpa[kI]using hg 0 _ rfl
  have g1:DataW.trod enc Tryz.prog W 0 (fun _=>true) true n 35 [v1]=some y1:=by simpa[kS]using hg 1 _ rfl
  have g2:DataW.trod enc Tryz.prog W 0 (fun _=>true) true n 3 [v2]=some y2:=by simpa[kI]using hg 2 _ rfl
  have g3:DataW.trod enc Tryz.prog W 0 (fun _=>true) true n 3 [v3]=some y3:=by simpa[kI]using hg 3 _ rfl
  obtain⟨a0,e0,_,_⟩:=DataW.trod_int Tryz.underlying3 g0;obtain⟨A,c,l,rfl,hs,hcap,_⟩:=slo_open13 (f:=stC) (k:=2) (by decide) (fun _=>rfl) Tryz.underlying35 (by kernel_rfl) el_step13 g1;obtain⟨a2,e2,_,_⟩:=DataW.trod_int Tryz.underlying3 g2;obtain⟨a3,e3,_,_⟩:=DataW.trod_int Tryz.underlying3 g3;simp at e0 e2 e3;subst e0 e2 e3;exact⟨(⟨a0,l,a2,a3⟩,.slice A l.length c),rfl,⟨A,c,rfl,hs⟩,fun A' n' c' e=>by cases e;exact hcap⟩
end
theorem topo_open {H:Type}{enc:TypeId×Value->H}{W:World}{r:Reach}{b0:Nat}{v:Value}{d:DataW H}{p:List MemPlace}(hv:Value.okWide Tryz.prog W r b0 27 v)
  (h:DataW.Trod enc Tryz.prog W 0 (fun _=>true) true 27 v d p): ∃(t:Tp3) (a:TpA),v= .agg (tpC t a)/\TopR W t a/\t.joints.length<=a.cj:=by
 obtain⟨v0,v1,v2,v3,y0,y1,y2,y3,n,rfl,_,_,h0,h1,h2,h3⟩:=open_agg4 Tryz.underlying27 (by kernel_rfl) (by kernel_rfl) hv h;obtain⟨A0,c0,l0,rfl,s0,_,_⟩:=slo_open13 (f:=inC) (k:=1) (by decide) (fun _=>rfl) Tryz.underlying22 (by kernel_rfl) el_int13 h0;obtain⟨A1,c1,l1,rfl,s1,hc1,_⟩:=slo_open13 (f:=jtC) (k:=4) (by decide) (fun _=>rfl) Tryz.underlying23 (by kernel_rfl) el_joint13 h1;obtain⟨A2,c2,l2,rfl,s2,_,_⟩:=slo_open13 (f:=blC) (k:=3) (by decide) (fun _=>rfl) Tryz.underlying24 (by kernel_rfl) el_bal13 h2;obtain⟨A3,c3,l3,rfl,s3,_,hq⟩:=slo_open13 (f:=rtC) (k:=4) (by decide) (fun _=>rfl) Tryz.underlying25 (by kernel_rfl) el_route13 h3;have hln:(l3.map (·.1)).length=l3.length:=by simp
 refine⟨⟨l0,l1,l2,l3.map (·.1)⟩,⟨A0,c0,A1,c1,A2,c2,A3,c3⟩,by unfold tpC;simp only[hln],⟨s0,s1,s2,?_⟩,hc1⟩;show RtsR W A3 (l3.map (·.1)).length c3 (l3.map (·.1))
 rw[hln];exact⟨l3,rfl,s3,hq⟩
end
section
open Go.RowKit
open Go.Great Go.ChangeShapes Go.WideShapes Go.ChangeAt Go.Deep Go.Joins
instance : Inhabited Sc3 := ⟨⟨0, 0⟩⟩
def scC17 (s:Sc3):List Value:=[.int .i64 s.to_,.int .i64 s.timer]
def scA17 (s:Sc3):Array Value:=#[.int .i64 s.to_,.int .i64 s.timer]
theorem el_sect17 {H:Type}{enc:TypeId×Value->H}{W:World}(fuel:Nat)(cs:List Value)(y:DataW H×List MemPlace)(hl:cs.length=2)(h:DataW.trod enc Tryz.prog W 0 (fun _=>true) true fuel 66 cs=some y): ∃x:Sc3,cs=scC17 x/\x.to_<=9223372036854775807:=by
 have kI:Tryz.prog.cellsOf 3=1:=by kernel_rfl
 obtain⟨xs,n,_,_,_,hxl,hg⟩:=DataW.trod_struct Tryz.underlying66 h
 match cs,hl,xs,hxl with
 |[v0,v1],_,[y0,y1],_=>
  have g0:DataW.trod enc Tryz.prog W 0 (fun _=>true) true n 3 [v0]=some y0:=by simpa[kI]using hg 0 _ rfl
  have g1:DataW.trod enc Tryz.prog W 0 (fun _=>true) true n 3 [v1]=some y1:=by simpa[kI]using hg 1 _ rfl
  obtain⟨a0,e0,_,b0⟩:=DataW.trod_int Tryz.underlying3 g0;obtain⟨a1,e1,_,_⟩:=DataW.trod_int Tryz.underlying3 g1;simp at e0 e1;subst e0 e1;exact⟨⟨a0,a1⟩,rfl,(int_bounds11 b0).2⟩
structure MaA where
 ap:Option Addr
 cp:Nat
 aq:Option Addr
 cs:Nat
def maC (m:Ma3)(a:MaA):Array Value:=#[.int .i64 m.ref,.bool m.rev,.slice a.ap m.path.length a.cp,.slice a.aq m.sects.length a.cs,.int .i64 m.gap]
structure MaR (w:World) (m:Ma3) (a:MaA):Prop where
 path:SlO stC 2 w a.ap m.path.length a.cp m.path
 sects:SlO scC17 2 w a.aq m.sects.length a.cs m.sects
 capP:m.path.length<=a.cp
 capS:m.sects.length<=a.cs
 top: ∀s∈m.sects,s.to_<=9223372036854775807
theorem MaR.under {w w':World}{m:Ma3}{a:MaA}(h:MaR w m a)(hb:Below w.heap.size w w'):MaR w' m a:=⟨h.path.under hb,h.sects.under hb,h.capP,h.capS,h.top⟩
theorem ma_open {H:Type}{enc:TypeId×Value->H}{W:World}{r:Reach}{b0:Nat}{v:Value}{d:DataW H}{p:List MemPlace}(hv:Value.okWide Tryz.prog W r b0 38 v)
  (h:DataW.Trod enc Tryz.prog W 0 (fun _=>true) true 38 v d p): ∃(m:Ma3) (a:MaA),v= .agg (maC m a)/\MaR W m a:=by
 obtain⟨cs,rfl,hsz⟩:=okWide_struct Tryz.underlying38 hv;have hC:Tryz.prog.cellsOf 38=5:=by kernel_rfl
 have kI:Tryz.prog.cellsOf 3=1:=by kernel_rfl
 have kB:Tryz.prog.cellsOf 4=1:=by kernel_rfl
 have kP:Tryz.prog.cellsOf 35=1:=by kernel_rfl
 have kS:Tryz.prog.cellsOf 36=1:=by kernel_rfl
 obtain⟨fuel,hf⟩:=h;obtain⟨cl⟩:=cs;have hf2:DataW.trod enc Tryz.prog W 0 (fun _=>true) true fuel 38 cl=some (d,p):=by simpa[Value.cells]using hf
 have hl:cl.length=5:=hsz.trans hC;obtain⟨xs,n,_,_,_,hxl,hg⟩:=DataW.trod_struct Tryz.underlying38 hf2
 match cl,hl,xs,hxl with
 |[v0,v1,v2,v3,v4],_,[y0,y1,y2,y3,y4],_=>
  have g0:DataW.trod enc Tryz.prog W 0 (fun _=>true) true n 3 [v0]=some y0:=by simpa[kI]using hg 0 _ rfl
  have g1:DataW.trod enc Tryz.prog W 0 (fun _=>true) true n 4 [v1]=some y1:=by simpa[kI,kB]using hg 1 _ rfl
  have g2:DataW.trod enc Tryz.prog W 0 (fun _=>true) true n 35 [v2]=some y2:=by simpa[kI,kB,kP]using hg 2 _ rfl
  have g3:DataW.trod enc Tryz.prog W 0 (fun _=>true) true n 36 [v3]=some y3:=by simpa[kI,kB,kP,kS]using hg 3 _ rfl
  have g4:DataW.trod enc Tryz.prog W 0 (fun _=>true) true n 3 [v4]=some y4:=by simpa[kI,kB,kP,kS]using hg 4 _ rfl
  obtain⟨a0,e0,_,_⟩:=DataW.trod_int Tryz.underlying3 g0;obtain⟨a1,e1,_⟩:=DataW.trod_bool Tryz.underlying4 g1;obtain⟨A2,c2,l2,rfl,s2,hc2,_⟩:=slo_open13 (f:=stC) (k:=2) (by decide) (fun _=>rfl) Tryz.underlying35 (by kernel_rfl) el_step13 g2;obtain⟨A3,c3,l3,rfl,s3,hc3,hq3⟩:=slo_open13 (f:=scC17) (k:=2) (by decide) (fun _=>rfl) Tryz.underlying36 (by kernel_rfl) el_sect17 g3;obtain⟨a4,e4,_,_⟩:=DataW.trod_int Tryz.underlying3 g4;simp at e0 e1 e4;subst e0 e1 e4;exact⟨⟨a0,a1,l2,l3,a4⟩,⟨A2,c2,A3,c3⟩,rfl,⟨s2,s3,hc2,hc3,hq3⟩⟩
end
section
open Go.RowKit
open Go.Great
theorem sl_low13 {w:World}{s:Nat}{A:Option Addr}{n c:Nat}{vs:List Value}(h:Sl w s A n c vs){q:Nat}(hq:q<=n):A≠none->Sl w s A q c (vs.take (q*s)):=by
 intro hA;have hl:vs.length=n*s:=h.1;have hm:q*s<=n*s:=Nat.mul_le_mul_right s hq;refine⟨by rw[List.length_take];omega,fun e=>absurd e hA,fun ad ha j u hu=>?_⟩;have hj:j<q*s:=by
  have:=(List.getElem?_eq_some_iff.1 hu).1;rw[List.length_take]at this;omega
 rw[List.getElem?_take_of_lt hj]at hu;exact h.2.2 ad ha j u hu
theorem flat_take13 {α:Type}{f:α->List Value}{k:Nat}(hf: ∀x,(f x).length=k)(l:List α)(q:Nat):(l.take q).flatMap f=(l.flatMap f).take (q*k):=by
 induction l generalizing q with
 |nil=>simp
 |cons x r ih=>
  cases q with
  |zero=>simp
  |succ m=>
   have e:(m+1)*k=k+m*k:=by rw[Nat.succ_mul,Nat.add_comm]
   rw[List.take_succ_cons,List.flatMap_cons,List.flatMap_cons,ih,e]
   conv=>rhs;rw[<-hf x]
   rw[List.take_length_add_append];rw[hf x]
theorem SlO.take {α:Type}{f:α->List Value}{k:Nat}{w:World}{A:Option Addr}{n c:Nat}{l:List α}(h:SlO f k w A n c l)(hf: ∀x,(f x).length=k)(hA:A≠none){q:Nat}(hq:q<=n):SlO f k w A q c (l.take q):=
 ⟨by rw[List.length_take,h.1];omega,by rw[flat_take13 hf];exact sl_low13 h.2 hq hA⟩
theorem jointE_at {t:Tp3}{i:Nat}{j:Jt3}(h:t.joints[i]?=some j):jointE t i=if(endB t j.a &&endB t j.b &&!eqE j.a j.b)=true then(if joinB (t.joints.take i) j.a j.b=true then 5 else 0)else 1:=by
 unfold jointE;rw[h]
theorem balE_at {t:Tp3}{i:Nat}{b:Bl3}(h:t.bals[i]?=some b):balE t i=if(decide (0<=b.id) &&decide (b.id<=16777214) &&edgeB t b.edge &&decide (0<=b.at_) &&decide (b.at_<=t.edges.getD b.edge.toNat 0))=true then(if((t.bals.take i).any fun x=>x.id==b.id)=true then 5 else 0)else 1:=by
 unfold balE;rw[h]
theorem routeAt_at {t:Tp3}{i:Nat}{r:Rt3}(h:t.routes[i]?=some r):routeAt t i=if routeE t r=0 then(if((t.routes.take i).any fun x=>x.id==r.id)=true then 5 else 0)else routeE t r:=by
 unfold routeAt;rw[h]
end
section
open Go.RowKit
open Go.Great
def psA (p:Ps3):Array Value:=#[.int .i64 p.edge,.int .i64 p.at_,.bool p.rev]
end
section
open Go.RowKit
open Go.Great
theorem info_step14:(Tryz.prog.info? 30).map (fun i=>(i.zero,i.size,i.bytes))=some (some (.agg #[.int .i64 0,.bool false]),2,16):=by kernel_rfl
def OwS14 (base:Nat)(w:World)(A:Option Addr)(n c:Nat)(l:List St3):Prop:=w.ownsRow base 30 2 (.slice A n c) n (l.flatMap stC)/\l.length=n
theorem OwS14.snoc {base n c:Nat}{W:World}{A:Option Addr}{l:List St3}{x:St3}(hl:l.length=n)(ho:W.ownsRow base 30 2 (.slice A (n+1) c) (n+1) (l.flatMap stC++stC x)):OwS14 base W A (n+1) c (l++[x]):=
 ⟨by rw[List.flatMap_append];simpa using ho,by simp[hl]⟩
theorem OwS14.under {base n c:Nat}{W W':World}{A:Option Addr}{l:List St3}(h:OwS14 base W A n c l)(hb:Below W.heap.size W W'):OwS14 base W' A n c l:=⟨own_under h.1 hb (Nat.le_refl _),h.2⟩
theorem OwS14.ne {base n c:Nat}{W:World}{A:Option Addr}{l:List St3}(h:OwS14 base W A n c l){g:Nat}(hg:W.heap.size<=g):(Value.slice A n c).ownBlock≠some g:=fun e=>by
 have:=(h.1.lt g e).2;omega
theorem OwS14.low {base n c:Nat}{W:World}{A:Option Addr}{l:List St3}(h:OwS14 base W A n c l){ad:Addr}(ha:A=some ad):base<=ad.block:=by
 rcases h.1.2 with⟨e1,_⟩|⟨g,cap,cur,e1,hb,_⟩
 ·injection e1 with e1
  rw[ha]at e1
  cases e1
 ·injection e1 with e1
  rw[ha]at e1;injection e1 with e1
  rw[e1];exact hb
end
section
open Go.RowKit
open Go.Great
theorem walkE_bad {t:Tp3}{p:Ps3}{n:Int}(h: ¬(rightP t p=true/\0<=n/\n<=1099511627776)):walkE t p n=(zeroP,1):=if_neg h
theorem walkE_ok {t:Tp3}{p:Ps3}{n:Int}(h:rightP t p=true/\0<=n/\n<=1099511627776):walkE t p n=walkF t 40 p n:=if_pos h
theorem walk_next14 {t:Tp3}{k:Nat}{p:Ps3}{n:Int}{s:St3}(h: ¬n<=aheadP t p)(h1:afterL t (stepP p)=[s])(hk:1<=k):walkF t k p n=walkF t (k-1) (beginP t s) (n-aheadP t p):=by
 obtain⟨j,rfl⟩: ∃j,k=j+1:=⟨k-1,by omega⟩
 exact walk_on h h1
end
section
open Go.RowKit
open Go.Great
theorem on_drop14 {t:Tp3}{p:Ps3}{path:List St3}{i:Nat}{x:St3}{c:Int}(hx:path[i]?=some x):onGo t p (path.drop i) c=if eqS x (stepP p)=true then some (c+lenAt t x-aheadP t p)else onGo t p (path.drop (i+1)) (c+lenAt t x):=by
 obtain⟨h1,e⟩:=List.getElem?_eq_some_iff.1 hx;rw[List.drop_eq_getElem_cons h1,e,onGo]
theorem loc_bad14 {t:Tp3}{id:Int}{rev:Bool}{n:Int}(h:checkE t≠0):locE t id rev n=(zeroP,1):=if_neg h
theorem loc_none14 {t:Tp3}{id:Int}{rev:Bool}{n:Int}(h:checkE t=0)(hb:(balF t id).isSome=false):locE t id rev n=(zeroP,4):=by
 unfold locE;rw[if_pos h]
 cases hq:balF t id with
 |none=>rfl
 |some y=>rw[hq]at hb;cases hb
theorem loc_some14 {t:Tp3}{id:Int}{rev:Bool}{n:Int}(h:checkE t=0)(hb:(balF t id).isSome=true):locE t id rev n=walkE t ⟨(balR t id).edge,(balR t id).at_,rev⟩ n:=by
 unfold locE balR;rw[if_pos h]
 cases hq:balF t id with
 |none=>rw[hq]at hb;cases hb
 |some y=>rfl
theorem on_bad14 {t:Tp3}{path:List St3}{p:Ps3}(h:rightP t p=false):onE t path p=(0,1):=if_neg (by rw[h];decide)
theorem on_len14 {t:Tp3}{path:List St3}{p:Ps3}(h:rightP t p=true)(hl:lenE t path≠0):onE t path p=(0,lenE t path):=by
 unfold onE;rw[if_pos h,if_neg hl]
theorem on_none14 {t:Tp3}{path:List St3}{p:Ps3}(h:rightP t p=true)(hl:lenE t path=0)(hg:onGo t p path 0=none):onE t path p=(0,4):=by
 unfold onE;rw[if_pos h,if_pos hl,hg]
theorem on_some14 {t:Tp3}{path:List St3}{p:Ps3}{n:Int}(h:rightP t p=true)(hl:lenE t path=0)(hg:onGo t p path 0=some n):onE t path p=(n,0):=by
 unfold onE;rw[if_pos h,if_pos hl,hg]
theorem sum_take14 {t:Tp3}{path:List St3}{i:Nat}{x:St3}(hx:path[i]?=some x):sumT t (path.take (i+1))=sumT t (path.take i)+lenAt t x:=by
 rw[List.take_add_one,hx,sum_app];show _+(lenAt t x+0)=_
 rw[Int.add_zero]
end
section
open Go.RowKit
/-! One more, one less: the walk's two spellings. -/
theorem succ_w {j j1:Nat}(h:j+1=j1)(hb:j<=1000000000):wrap64 ((j:Int)+1)=(j1:Int):=by
 rw[IntWalk.wrap64_in _ (by omega)];omega
def OwR {α:Type}(f:α->List Value)(k:Nat)(e:TypeId)(base:Nat)(w:World)(A:Option Addr)(n c:Nat)(l:List α):Prop:=w.ownsRow base e k (.slice A n c) n (l.flatMap f)/\l.length=n
section
variable {α:Type} {f:α->List Value} {k:Nat} {e:TypeId} {base:Nat} {w w':World} {A:Option Addr} {n c:Nat} {l:List α}
theorem OwR.nil (f:α->List Value)(k:Nat)(e:TypeId)(base:Nat)(w:World):OwR f k e base w none 0 0 []:=⟨World.ownsRow_nil _ _ _ _,rfl⟩
theorem OwR.under (h:OwR f k e base w A n c l)(hb:Below w.heap.size w w'):OwR f k e base w' A n c l:=⟨own_under h.1 hb (Nat.le_refl _),h.2⟩
theorem OwR.ne (h:OwR f k e base w A n c l){g:Nat}(hg:w.heap.size<=g):(Value.slice A n c).ownBlock≠some g:=fun e=>by
 have:=(h.1.lt g e).2;omega
theorem OwR.low (h:OwR f k e base w A n c l){ad:Addr}(ha:A=some ad):base<=ad.block:=by
 subst ha;exact(h.1.lt ad.block rfl).1
theorem OwR.lt (h:OwR f k e base w A n c l){ad:Addr}(ha:A=some ad):ad.block<w.heap.size:=by
 subst ha;exact(h.1.lt ad.block rfl).2
theorem OwR.sl (h:OwR f k e base w A n c l):SlO f k w A n c l:=⟨h.2,Sl.of_own h.1⟩
theorem OwR.cap (h:OwR f k e base w A n c l):n<=c:=by
 rcases h.1.2 with⟨h1,h2⟩|⟨g,cap,cur,h1,_,_,h2,_⟩
 ·omega
 ·injection h1 with _ _ h1
  omega
theorem OwR.kept {row:Option Nat}(h:OwR f k e base w A n c l)(hg:w.grownBy w' row)(hne:(Value.slice A n c).ownBlock=none\/(Value.slice A n c).ownBlock≠row):OwR f k e base w' A n c l:=⟨h.1.kept hg hne,h.2⟩
theorem OwR.apart {g:Nat}{t:TypeId}{cs:Array Value}(h:OwR f k e base w A n c l)(hg:Has w g t cs)(hne:e≠t):(Value.slice A n c).ownBlock≠some g:=own_apart h.1 hg hne
theorem OwR.to_base {base':Nat}(h:OwR f k e base w A n c l)(hb:base'<=base):OwR f k e base' w A n c l:=by
 refine⟨⟨h.1.1,?_⟩,h.2⟩
 rcases h.1.2 with h1|⟨g,cap,cur,h1,h2,h3⟩
 ·exact .inl h1
 ·exact .inr ⟨g,cap,cur,h1,Nat.le_trans hb h2,h3⟩
theorem OwR.two {β:Type}{f':β->List Value}{k':Nat}{e':TypeId}{base':Nat}{A':Option Addr}{n' c':Nat}{l':List β}(h:OwR f k e base w A n c l)(h':OwR f' k' e' base' w A' n' c' l')(hne:e≠e'):(Value.slice A n c).ownBlock=none\/(Value.slice A n c).ownBlock≠(Value.slice A' n' c').ownBlock:=by
 cases A with
 |none=>exact .inl rfl
 |some ad=>
  refine .inr fun he=>?_
  cases A' with
  |none=>cases he
  |some ad'=>
   rcases h.1.2 with⟨h1,_⟩|⟨g,cap,cur,h1,_,h3,_⟩
   ·cases h1
   ·rcases h'.1.2 with⟨h4,_⟩|⟨g',cap',cur',h4,_,h6,_⟩
    ·cases h4
    ·injection h1 with h1
     injection h1 with h1
     injection h4 with h4
     injection h4 with h4
     subst h1 h4;have he:g=g':=by simpa[Value.ownBlock]using he
     subst he;rw[h3]at h6;simp only[Option.some.injEq,Obj.cells.injEq]at h6;exact hne h6.2.1
def PushR (f:α->List Value)(k:Nat)(e:TypeId)(bytes base:Nat)(w:World)(g:Nat)(A:Option Addr)(n c:Nat)(l:List α)(x:α):Prop:=
 Hid ((f x).length=1*k)/\Hid (w.ownsRow base e k (.slice A n c) n (l.flatMap f))/\Hid (∀j u,(f x)[j]?=some u->w.cell? ((⟨g,0,none⟩:Addr).add j)=some u)/\Hid (∀u∈f x,u.oneCell'=true)/\Hid (n+1<=maxLen/\(n+1)*bytes<=140737488355328/\base<=w.heap.size)
theorem pushR (bytes:Nat)(x:α)(cs:Array Value)(hcs:cs.toList=f x)(hk:(f x).length=k)(h1: ∀u∈f x,u.oneCell'=true)(ho:OwR f k e base w A n c l)(hb:base<=w.heap.size)(hn:n<=1048576)(hby:bytes<=65536):PushR f k e bytes base (w.alloc (.cells cs e)) w.heap.size A n c l x:=by
 refine⟨zq (by rw[hk];omega),zq (ho.1.alloc _),zq fun j u hu=>?_,zq h1,zq ⟨by unfold maxLen;omega,?_,by simp;omega⟩⟩
 ·rw[WideShapes.add_plain,(Has.made w e _).cell,Nat.zero_add,<-Array.getElem?_toList,hcs]
  exact hu
 ·have:=Nat.mul_le_mul (show n+1<=1048577 by omega) hby
  omega
theorem OwR.snoc {x:α}(hl:l.length=n)(ho:w.ownsRow base e k (.slice A (n+1) c) (n+1) (l.flatMap f++f x)):OwR f k e base w A (n+1) c (l++[x]):=
 ⟨by rw[List.flatMap_append];simpa using ho,by simp[hl]⟩
theorem OwR.poured {m:Nat}{l':List α}(hl:l.length=n)(hl':l'.length=m)(ho:w.ownsRow base e k (.slice A (n+m) c) (n+m) (l.flatMap f++l'.flatMap f)):OwR f k e base w A (n+m) c (l++l'):=
 ⟨by rw[List.flatMap_append];exact ho,by simp[hl,hl']⟩
theorem pourR (bytes:Nat){B:Option Addr}{m cc:Nat}{l':List α}(ho:OwR f k e base w A n c l)(hs:SlO f k w B m cc l')(h1: ∀x,∀u∈f x,u.oneCell'=true)(hb:base<=w.heap.size)(hn:n+m<=1048576)(hby:bytes<=65536):
  Hid (w.ownsRow base e k (.slice A n c) n (l.flatMap f))/\Hid (Sl w k B m cc (l'.flatMap f))/\Hid (∀u∈l'.flatMap f,u.oneCell'=true)/\Hid (n+m<=maxLen/\(n+m)*bytes<=140737488355328/\base<=w.heap.size):=by
 refine⟨zq ho.1,zq hs.2,zq fun u hu=>?_,zq ⟨by unfold maxLen;omega,?_,hb⟩⟩
 ·obtain⟨x,_,h⟩:=List.mem_flatMap.1 hu
  exact h1 x u h
 ·have:=Nat.mul_le_mul hn hby
  omega
theorem OwR.has {ad:Addr}(h:OwR f k e base w (some ad) n c l): ∃g cur,ad=⟨g,0,none⟩/\base<=g/\Has w g e cur/\n<=c/\c<=maxLen/\cur.size=c*k/\cur.toList.take (n*k)=l.flatMap f:=by
 rcases h.1.2 with⟨h',_⟩|⟨g,cap,cur,h',hb,hg,hnc,hcm,hcs,htake⟩
 ·cases h'
 ·injection h' with h1 h2 h3
  injection h1 with h1
  subst h1 h3;exact⟨g,cur,rfl,hb,hg,hnc,hcm,hcs,htake⟩
theorem OwR.set {ad:Addr}{l':List α}(h:OwR f k e base w (some ad) n c l){j:Nat}{u:Value}(hl:l'.length=n)(hs:l'.flatMap f=(l.flatMap f).set j u):OwR f k e base (w.setCell ⟨ad.block,j,none⟩ u) (some ad) n c l':=by
 obtain⟨g,cur,rfl,hb,hg,hnc,hcm,hcs,ht⟩:=h.has;refine⟨⟨?_,.inr ⟨g,c,cur.setIfInBounds j u,rfl,hb,hg.stored j u,hnc,hcm,by simpa using hcs,?_⟩⟩,hl⟩
 ·rw[hs,List.length_set]
  exact h.1.1
 ·rw[Array.toList_setIfInBounds,List.take_set,ht,hs]
theorem OwR.block {ad:Addr}(h:OwR f k e base w (some ad) n c l):ad=⟨ad.block,0,none⟩:=by
 obtain⟨g,cur,rfl,_⟩:=h.has
 rfl
theorem OwR.thaw {ad:Addr}(h:OwR f k e base w (some ad) n c l)(j:Nat):w.frozen? ⟨ad.block,j,none⟩=false:=by
 obtain⟨g,cur,rfl,_,hg,_⟩:=h.has;exact hg.thaw j
theorem OwR.some (h:OwR f k e base w A n c l)(hn:0<n): ∃g,A=some ⟨g,0,none⟩/\base<=g/\g<w.heap.size:=by
 rcases h.1.2 with⟨_,h2⟩|⟨g,cap,cur,h',hb,hg,_⟩
 ·omega
 ·injection h' with h1
  exact⟨g,h1,hb,(Array.getElem?_eq_some_iff.1 hg).1⟩
theorem below_owr {w0:World}{B:Nat}(h:Below B w0 w)(hB:B<=w.heap.size)(ho:OwR f k e base w A n c l)(hbase:B<=base)(hg:w.grownBy w' (Value.slice A n c).ownBlock):Below B w0 w':=below_own h hB ho.1 hbase rfl hg
end
theorem sl_hasR {W:World}{g:Nat}{t:TypeId}{n s:Nat}{vs:List Value}(h:Has W g t vs.toArray)(hn:vs.length=n*s):Sl W s (some ⟨g,0,none⟩) n n vs:=by
 refine⟨hn,(fun e=>by cases e),fun ad ha j u hu=>?_⟩;injection ha with ha
 subst ha;rw[WideShapes.add_plain,h.cell,Nat.zero_add]
 simpa using hu
theorem SlO.at_cell {α:Type}{f:α->List Value}{k:Nat}{w:World}{b off n c:Nat}{l:List α}(h:SlO f k w (some ⟨b,off,none⟩) n c l)(hf: ∀x,(f x).length=k)(hk:0<k){j:Nat}{x:α}(hx:l[j]?=some x){i:Nat}{u:Value}(hu:(f x)[i]?=some u):w.cell? ⟨b,off+j*k+i,none⟩=some u:=by
 obtain⟨b',o',e,hc⟩:=h.at_ hf hk hx;injection e with e
 injection e with e1 e2 _
 subst e1 e2;exact hc i u hu
end
section
open Go.RowKit
open Go.Great
def snA (s:Sn3):Array Value:=#[.int .i64 s.edge,.int .i64 s.lo,.int .i64 s.hi]
def snC (s:Sn3):List Value:=[.int .i64 s.edge,.int .i64 s.lo,.int .i64 s.hi]
theorem info_int15:(Tryz.prog.info? 3).map (fun i=>(i.zero,i.size,i.bytes))=some (some (.int .i64 0),1,8):=by kernel_rfl
theorem info_span15:(Tryz.prog.info? 119).map (fun i=>(i.zero,i.size,i.bytes))=some (some (.agg #[.int .i64 0,.int .i64 0,.int .i64 0]),3,24):=by kernel_rfl
theorem one_in15 (x:Int): ∀u∈inC x,u.oneCell'=true:=by
 intro u hu;simp only[inC,List.mem_cons,List.not_mem_nil,or_false]at hu;subst hu
 rfl
theorem one_sn15 (s:Sn3): ∀u∈snC s,u.oneCell'=true:=by
 intro u hu;simp only[snC,List.mem_cons,List.not_mem_nil,or_false]at hu
 rcases hu with rfl|rfl|rfl<;>rfl
theorem SlO.span {w:World}{A:Option Addr}{n c:Nat}{l:List Sn3}(h:SlO snC 3 w A n c l){j:Nat}{x:Sn3}(hx:l[j]?=some x):
  ∃b off,A=some ⟨b,off,none⟩/\w.cell? ⟨b,off+j*3,none⟩=some (.int .i64 x.edge)/\w.cell? ⟨b,off+j*3+1,none⟩=some (.int .i64 x.lo)/\w.cell? ⟨b,off+j*3+2,none⟩=some (.int .i64 x.hi):=by
 obtain⟨b,off,e,hc⟩:=h.at_ (fun _=>rfl) (by decide) hx;exact⟨b,off,e,hc 0 _ rfl,hc 1 _ rfl,hc 2 _ rfl⟩
theorem SlO.num {w:World}{A:Option Addr}{n c:Nat}{l:List Int}(h:SlO inC 1 w A n c l){j:Nat}{x:Int}(hx:l[j]?=some x):
  ∃b off,A=some ⟨b,off,none⟩/\w.cell? ⟨b,off+j,none⟩=some (.int .i64 x):=by
 obtain⟨b,off,e,hc⟩:=h.at_ (fun _=>rfl) (by decide) hx;refine⟨b,off,e,?_⟩;have h0:=hc 0 _ rfl
 simpa using h0
end
section
open Go.RowKit
open Go.Great
theorem drop_at15 {α:Type}{l:List α}{i:Nat}{x:α}(hx:l[i]?=some x):l.drop i=x::l.drop (i+1):=by
 obtain⟨h1,e⟩:=List.getElem?_eq_some_iff.1 hx;rw[List.drop_eq_getElem_cons h1,e]
end
section
open Go.RowKit
open Go.Great
def eqC17 (a b:Sc3):Bool:=(a.to_==b.to_) &&(a.timer==b.timer)
theorem eqC17_iff (a b:Sc3):eqC17 a b=true↔a=b:=by
 obtain⟨x,y⟩:=a;obtain⟨u,v⟩:=b;unfold eqC17;simp
theorem eq_sc17 (a b:Sc3)(W:World):(Op.equalIn 10000 66 (.agg (scA17 a)) (.agg (scA17 b))).run Tryz.prog W= .ok (eqC17 a b) W:=by
 rw[show(10000:Nat)=9999+1 from rfl,run_equalIn_struct W 9999 66 _ _ (by kernel_rfl) (by kernel_rfl)];simp only[Program.fieldsOf,Tryz.underlying66];unfold eqC17 scA17;by_cases h0:a.to_=b.to_;rotate_left
 ·refine(run_eqNo13 W 9999 (scA17 a) (scA17 b) _ _ (.int .i64 a.to_) (.int .i64 b.to_) (by decide) (run_part1_11 W 3 (scA17 a) 0 (.int .i64 a.to_) (by kernel_rfl) rfl) (run_part1_11 W 3 (scA17 b) 0 (.int .i64 b.to_) (by kernel_rfl) rfl) (by rw[show(9999:Nat)=9998+1 from rfl,run_equalIn_int W 9998 3 .i64 .i64 _ _ Tryz.underlying3];simp[h0])).trans ?_
  have e:(a.to_==b.to_)=false:=by simp[h0]
  simp[e]
 refine(run_eqField11 W 9999 (scA17 a) (scA17 b) _ _ (.int .i64 a.to_) (.int .i64 b.to_) (by decide) (run_part1_11 W 3 (scA17 a) 0 (.int .i64 a.to_) (by kernel_rfl) rfl) (run_part1_11 W 3 (scA17 b) 0 (.int .i64 b.to_) (by kernel_rfl) rfl) (by rw[show(9999:Nat)=9998+1 from rfl,run_equalIn_int W 9998 3 .i64 .i64 _ _ Tryz.underlying3];simp[h0])).trans ?_;by_cases h1:a.timer=b.timer;rotate_left
 ·refine(run_eqNo13 W 9999 (scA17 a) (scA17 b) _ _ (.int .i64 a.timer) (.int .i64 b.timer) (by decide) (run_part1_11 W 3 (scA17 a) 1 (.int .i64 a.timer) (by kernel_rfl) rfl) (run_part1_11 W 3 (scA17 b) 1 (.int .i64 b.timer) (by kernel_rfl) rfl) (by rw[show(9999:Nat)=9998+1 from rfl,run_equalIn_int W 9998 3 .i64 .i64 _ _ Tryz.underlying3];simp[h1])).trans ?_
  have e:(a.timer==b.timer)=false:=by simp[h1]
  simp[e]
 refine(run_eqField11 W 9999 (scA17 a) (scA17 b) _ _ (.int .i64 a.timer) (.int .i64 b.timer) (by decide) (run_part1_11 W 3 (scA17 a) 1 (.int .i64 a.timer) (by kernel_rfl) rfl) (run_part1_11 W 3 (scA17 b) 1 (.int .i64 b.timer) (by kernel_rfl) rfl) (by rw[show(9999:Nat)=9998+1 from rfl,run_equalIn_int W 9998 3 .i64 .i64 _ _ Tryz.underlying3];simp[h1])).trans ?_;refine(run_eqDone11 W 9999 _ _).trans ?_;simp[h0,h1]
theorem eql_sc17 (a b:Sc3)(W:World):(binOp .eql 66 (.agg (scA17 a)) (.agg (scA17 b))).run Tryz.prog W= .ok (.bool (eqC17 a b)) W:=by
 rw[run_eql_struct,eq_sc17];rfl
theorem neq_sc17 (a b:Sc3)(W:World):(binOp .neq 66 (.agg (scA17 a)) (.agg (scA17 b))).run Tryz.prog W= .ok (.bool (!eqC17 a b)) W:=by
 rw[run_neq_struct,eq_sc17];rfl
theorem SlO.sect {w:World}{A:Option Addr}{n c:Nat}{l:List Sc3}(h:SlO scC17 2 w A n c l){j:Nat}{x:Sc3}(hx:l[j]?=some x):
  ∃b off,A=some ⟨b,off,none⟩/\w.cell? ⟨b,off+j*2,none⟩=some (.int .i64 x.to_)/\w.cell? ⟨b,off+j*2+1,none⟩=some (.int .i64 x.timer):=by
 obtain⟨b,off,e,hc⟩:=h.at_ (fun _=>rfl) (by decide) hx;exact⟨b,off,e,hc 0 _ rfl,hc 1 _ rfl⟩
theorem end17 {m:Ma3}{i:Nat}{s:Sc3}(hi:i+1=m.sects.length)(hs:m.sects[i]?=some s):endM m=s.to_:=by
 unfold endM;refine last_get (q:=s) ?_;rw[List.getLast?_eq_getElem?,<-hi];exact hs
end
section
open Go.RowKit
open Go.Great
def lcA (s:Lc3):Array Value:=#[.int .i64 s.route,.int .i64 s.train,.int .i64 s.no]
def lcC (s:Lc3):List Value:=[.int .i64 s.route,.int .i64 s.train,.int .i64 s.no]
theorem info_lock16:(Tryz.prog.info? 73).map (fun i=>(i.zero,i.size,i.bytes))=some (some (.agg #[.int .i64 0,.int .i64 0,.int .i64 0]),3,24):=by kernel_rfl
theorem one_lc16 (s:Lc3): ∀u∈lcC s,u.oneCell'=true:=by
 intro u hu;simp only[lcC,List.mem_cons,List.not_mem_nil,or_false]at hu
 rcases hu with rfl|rfl|rfl<;>rfl
theorem SlO.lock {w:World}{A:Option Addr}{n c:Nat}{l:List Lc3}(h:SlO lcC 3 w A n c l){j:Nat}{x:Lc3}(hx:l[j]?=some x):
  ∃b off,A=some ⟨b,off,none⟩/\w.cell? ⟨b,off+j*3,none⟩=some (.int .i64 x.route)/\w.cell? ⟨b,off+j*3+1,none⟩=some (.int .i64 x.train)/\w.cell? ⟨b,off+j*3+2,none⟩=some (.int .i64 x.no):=by
 obtain⟨b,off,e,hc⟩:=h.at_ (fun _=>rfl) (by decide) hx;exact⟨b,off,e,hc 0 _ rfl,hc 1 _ rfl,hc 2 _ rfl⟩
theorem SlO.locks {w:World}{A:Option Addr}{n c:Nat}{l:List Lc3}(h:SlO lcC 3 w A n c l){j:Nat}{x:Lc3}(hx:l[j]?=some x):
  ∃b off,A=some ⟨b,off,none⟩/\ ∀W,Below w.heap.size w W->W.cell? ⟨b,off+j*3,none⟩=some (.int .i64 x.route)/\W.cell? ⟨b,off+j*3+1,none⟩=some (.int .i64 x.train)/\W.cell? ⟨b,off+j*3+2,none⟩=some (.int .i64 x.no):=by
 obtain⟨b,off,rfl,_⟩:=h.lock hx;refine⟨b,off,rfl,fun W hW=>?_⟩;obtain⟨b',o',e,h1⟩:=(h.under hW).lock hx;injection e with e
 injection e with e1 e2 _
 subst e1 e2;exact h1
def LkT (w:World)(A:Option Addr)(n c:Nat)(l:List Lc3):Prop:=SlO lcC 3 w A n c l/\n<=c/\ ∀ad,A=some ad-> ∃cs,Has w ad.block 73 cs
theorem LkT.under {w w':World}{A:Option Addr}{n c:Nat}{l:List Lc3}(h:LkT w A n c l)(hb:Below w.heap.size w w'):LkT w' A n c l:=⟨h.1.under hb,h.2.1,fun ad e=>by
 obtain⟨cs,hc⟩:=h.2.2 ad e;exact⟨cs,hc.u hb⟩⟩
theorem LkT.row {w:World}{A:Option Addr}{n c g:Nat}{l:List Lc3}{t:TypeId}{o:Array Value}(h:LkT w A n c l)(hg:Has w g t o)(hne:t≠73)(cs:Array Value):LkT (w.setRow g cs) A n c l:=by
 have hn: ∀ad,A=some ad->ad.block≠g:=fun ad e hb=>by
  obtain⟨cs,hc⟩:=h.2.2 ad e;rw[hb]at hc;exact Has.other hg hc hne rfl
 refine⟨⟨h.1.1,sl_row11 h.1.2 hn _⟩,h.2.1,fun ad e=>?_⟩;obtain⟨cs',hc⟩:=h.2.2 ad e;exact⟨cs',has_rowo11 hc (hn ad e) _⟩
theorem LkT.of_own {w:World}{base:Nat}{A:Option Addr}{n c:Nat}{l:List Lc3}(h:OwR lcC 3 73 base w A n c l):LkT w A n c l:=⟨h.sl,h.cap,fun ad e=>by
 subst e;obtain⟨g,cur,rfl,_,hh,_⟩:=h.has;exact⟨cur,hh⟩⟩
theorem LkT.none (w:World):LkT w none 0 0 []:=⟨SlO.nil _ _ _,Nat.le_refl _,fun ad e=>by cases e⟩
/-! Extents are short. -/
theorem ov_len16 (t:Tp3)(fr tz:Int)(path:List St3)(at_:Int):(ovGo t fr tz path at_).length<=path.length:=by
 induction path generalizing at_ with
 |nil=>exact Nat.le_refl _
 |cons s r ih=>
  rw[ovGo,List.length_append,List.length_cons];have:=ih (at_+lenAt t s);have h1: ∀a b,(partN s (lenAt t s) a b).length<=1:=fun a b=>by
   unfold partN;split<;>simp
  have:=h1 (cutA fr at_) (cutB tz at_ (lenAt t s));omega
theorem over_few16 (t:Tp3)(path:List St3)(fr tz:Int):(overE t path fr tz).1.length<=2*path.length:=by
 unfold overE;split
 ·split
  ·refine Nat.le_trans (form_few _ _ _) ?_
   have:=ov_len16 t fr tz path 0;simp;omega
  ·simp
 ·simp
end
section
open Go.RowKit
open Go.Great
theorem one_st17 (s:St3): ∀u∈stC s,u.oneCell'=true:=by
 intro u hu;simp only[stC,List.mem_cons,List.not_mem_nil,or_false]at hu
 rcases hu with rfl|rfl<;>rfl
def isBool17:Value->Bool
 | .bool _=>true
 |_=>false
def noB17 (o:Array Value):Bool:=o.toList.all fun v=>!isBool17 v
theorem SlO.rowB17 {W:World}{A:Option Addr}{n c g:Nat}{l:List St3}{t:TypeId}{o:Array Value}(h:SlO stC 2 W A n c l)(hg:Has W g t o)(hb:noB17 o=true)(cs:Array Value):SlO stC 2 (W.setRow g cs) A n c l:=by
 cases l with
 |nil=>
  have h1:=h.1;rw[List.length_nil]at h1;subst h1;exact⟨rfl,rfl,h.2.2.1,fun ad e j u hu=>by simp at hu⟩
 |cons x r=>
  refine⟨h.1,sl_row11 h.2 (fun ad e hb2=>?_) _⟩;have h1:=h.2.2.2 ad e 1 (.bool x.rev) (by rw[List.flatMap_cons];rfl);obtain⟨b,off,e2,hc⟩:=h.at_ (fun _=>rfl) (by decide) (j:=0) (x:=x) rfl;rw[e]at e2;injection e2 with e2
  subst e2;have h2:=hc 1 _ rfl;subst hb2;rw[hg.cell]at h2;unfold noB17 at hb;rw[List.all_eq_true]at hb;have h3:=hb (.bool x.rev) (by
   rw[Array.mem_toList_iff];exact Array.mem_of_getElem? h2)
  cases h3
theorem pathR_of {t:Tp3}{id:Int}:pathR t id=(routeR t id).path:=by
 unfold pathR routeR
 cases routeF t id<;>rfl
theorem path_few17 {t:Tp3}(hl:lightT t=true)(id:Int):(pathR t id).length<=100:=by
 unfold pathR
 cases hq:routeF t id with
 |none=>simp
 |some r=>exact(light_nums13 hl).2.2.2.2 r (List.mem_of_find?_eq_some hq)
theorem way_few17 {t:Tp3}(hl:lightT t=true)(l:List Lc3):(wayC t l).length<=100*l.length:=by
 induction l with
 |nil=>simp[wayC]
 |cons k r ih=>
  have h1:=path_few17 hl k.route;unfold wayC at ih⊢;rw[List.flatMap_cons,List.length_append,List.length_cons];omega
theorem cells_last17 {W:World}{base gx k c:Nat}{l:List St3}{s:St3}(h:OwR stC 2 30 base W (some ⟨gx,0,none⟩) k c l)(hs:l[k-1]?=some s):W.cell? ⟨gx,(k-1)*2,none⟩=some (.int .i64 s.edge)/\W.cell? ⟨gx,(k-1)*2+1,none⟩=some (.bool s.rev):=by
 have h0:=h.sl.at_cell (fun _=>rfl) (by decide) hs (i:=0) rfl;have h1:=h.sl.at_cell (fun _=>rfl) (by decide) hs (i:=1) rfl;simp only[Nat.zero_add,Nat.add_zero]at h0 h1;exact⟨h0,h1⟩
end
section
open Go.RowKit
theorem ret_pair {a b x:Int}(h:a=b):Ending.returned (.tuple #[.int .i64 a,.int .i64 x])= .returned (pair (b,x)):=by rw[h];rfl
theorem scaled_any (dm s:Int)(up:Bool)(w:World):
  Calls Tryz.prog 87 #[.int .i64 dm,.int .i64 s,.bool up] w fun e w'=>e= .returned (pair (scaledOf dm s up))/\w=w':=by
 have hu:=unit_cases s;have c:=unit_any s w;rw[scaledOf];generalize unitOf s=u at*;have C:=zq c;clear c;by_cases h0:u=0
 ·subst h0
  rw[if_pos rfl];clear hu;go_enter Tryz.func87,Tryz.ntmps87;go_wp2_with fail;refine C.out.mono ?_;rintro e w' ⟨rfl,rfl⟩;go_wp2;go_ret2
  exact⟨rfl,rfl⟩
 ·rw[if_neg h0]
  by_cases hn:dm<0\/1099511627776<dm
  ·rw[if_pos hn]
   obtain h|⟨g,h⟩:dm<0\/(¬dm<0/\1099511627776<dm):=by omega
   ·clear hu hn
    go_enter Tryz.func87,Tryz.ntmps87;go_wp2_with fail;refine C.out.mono ?_;rintro e w' ⟨rfl,rfl⟩;go_wp2;go_ret2
    exact⟨rfl,rfl⟩
   ·clear hu hn
    go_enter Tryz.func87,Tryz.ntmps87;go_wp2_with fail;refine C.out.mono ?_;rintro e w' ⟨rfl,rfl⟩;go_wp2;go_ret2
    exact⟨rfl,rfl⟩
  ·rw[if_neg hn]
   obtain⟨h1,h2⟩: ¬dm<0/\ ¬1099511627776<dm:=by omega
   have q0:Int.tdiv dm u=dm/u:=Int.tdiv_eq_ediv_of_nonneg (by omega);have r0:Int.tmod dm u=dm %u:=Int.tmod_eq_emod_of_nonneg (by omega);obtain⟨q,hq⟩:=geZ (dm/u);obtain⟨r,hr⟩:=geZ (dm %u);have hq1:0<=q/\q<=1099511627776:=by
    rcases hu with rfl|rfl|rfl|rfl<;>omega
   have e1:wrap64 q=q:=IntWalk.wrap64_in _ (by omega);have e2:wrap64 (q+1)=q+1:=IntWalk.wrap64_in _ (by omega);have hr1:wrap64 r=r:=IntWalk.wrap64_in _ (by rcases hu with rfl|rfl|rfl|rfl<;>omega);rw[wholeOf,hq,hr];rw[hq]at q0;rw[hr]at r0;clear hu hn hq hr hq1
   cases up
   ·simp only[Bool.false_eq_true,false_and,if_false,Int.add_zero]
    by_cases hf:32766<q
    ·rw[if_pos hf]
     go_enter Tryz.func87,Tryz.ntmps87;go_wp2_with fail;refine C.out.mono ?_;rintro e w' ⟨rfl,rfl⟩;go_wp2;go_ret2
     exact⟨rfl,rfl⟩
    ·rw[if_neg hf]
     go_enter Tryz.func87,Tryz.ntmps87;go_wp2_with fail;refine C.out.mono ?_;rintro e w' ⟨rfl,rfl⟩;go_wp2;go_ret2
     exact⟨ret_pair e1,rfl⟩
   ·by_cases hz:r=0
    ·subst hz
     simp only[ne_eq,not_true,and_false,if_false,Int.add_zero];by_cases hf:32766<q
     ·rw[if_pos hf]
      go_enter Tryz.func87,Tryz.ntmps87;go_wp2_with fail;refine C.out.mono ?_;rintro e w' ⟨rfl,rfl⟩;go_wp2;go_ret2
      exact⟨rfl,rfl⟩
     ·rw[if_neg hf]
      go_enter Tryz.func87,Tryz.ntmps87;go_wp2_with fail;refine C.out.mono ?_;rintro e w' ⟨rfl,rfl⟩;go_wp2;go_ret2
      exact⟨ret_pair e1,rfl⟩
    ·have hz1:(r !=0)=true:=by simp[hz]
     simp only[ne_eq,hz,not_false_eq_true,and_self,if_true];by_cases hf:32766<q+1
     ·rw[if_pos hf]
      go_enter Tryz.func87,Tryz.ntmps87;go_wp2_with fail;refine C.out.mono ?_;rintro e w' ⟨rfl,rfl⟩;go_wp2;go_ret2
      exact⟨rfl,rfl⟩
     ·rw[if_neg hf]
      go_enter Tryz.func87,Tryz.ntmps87;go_wp2_with fail;refine C.out.mono ?_;rintro e w' ⟨rfl,rfl⟩;go_wp2;go_ret2
      exact⟨ret_pair e2,rfl⟩
end
section
open Go.RowKit
def bestFrom (dm:Int)(s:Nat):Int:=
 if 3<=s then -1 else if(scaledOf dm s true).2=0 then s else bestFrom dm (s+1)
termination_by 3-s
theorem bestFrom_out (dm:Int)(s:Nat)(h:3<=s):bestFrom dm s= -1:=by rw[bestFrom,if_pos h]
theorem bestFrom_in (dm:Int)(s:Nat)(h:s<3):bestFrom dm s=if(scaledOf dm s true).2=0 then(s:Int)else bestFrom dm (s+1):=by rw[bestFrom,if_neg (by omega)]
theorem bestFrom_zero (dm:Int):bestFrom dm 0=bestOf dm:=by
 rw[bestFrom_in _ _ (by omega),bestFrom_in _ _ (by omega),bestFrom_in _ _ (by omega),bestFrom_out _ _ (by omega)]
 rfl
theorem best_any (dm:Int)(w:World):
  Calls Tryz.prog 29 #[.int .i64 dm] w fun e w'=>e= .returned (.int .i64 (bestOf dm))/\w=w':=by
 rw[<-bestFrom_zero];obtain⟨B,hB⟩:=geZ (bestFrom dm 0);rw[hB];have C:=zq (fun s=>scaled_any dm s true w);go_enter Tryz.func29,Tryz.ntmps29;go_wp2;go_loop [6] (fun i=> ∃k:Nat,k<=3/\i= .int .i64 k/\bestFrom dm k=B) (fun i=>3-(intOf i).toNat)
 case atStart=>exact⟨0,by omega,rfl,hB⟩
 obtain⟨k,hk,rfl,hf⟩:=hrel;clear hB;by_cases hlt:k<3
 ·rw[bestFrom_in _ _ hlt]at hf
  have c:=C.out k;generalize scaledOf dm k true=R at*;obtain⟨n,x⟩:=R;by_cases hx:x=0
  ·rw[if_pos hx]at hf
   subst hf;subst hx;go_wp2_with fail;refine c.mono ?_;rintro e w' ⟨rfl,rfl⟩;simp only[pair];go_wp2;go_ret
   exact⟨rfl,rfl⟩
  ·rw[if_neg hx]at hf
   have HF:=zq hf;clear hf;have hx1:(x==0)=false:=by simp[hx]
   go_wp2_with fail;refine c.mono ?_;rintro e w' ⟨rfl,rfl⟩;simp only[pair];go_wp2;go_round
   case rel=>exact⟨k+1,by omega,by go_num,HF.out⟩
   case measure=>simp[intOf];omega
 ·rw[bestFrom_out _ _ (by omega)]at hf
  subst hf;go_wp2;go_ret
  exact⟨rfl,rfl⟩
end
section
open Go.RowKit
theorem ref_unit (s:Int)(w:World):
  Calls Tryz.prog 191 #[.int .i64 s] w fun e w'=>e= .returned (.int .i64 (unitOf s))/\Below w.heap.size w w':=by
 have hb0:=(Below.refl w.heap.size w).alloc (Nat.le_refl _) (.cells #[.int .i64 1,.int .i64 10,.int .i64 100] 3);have HB:=zq hb0;clear hb0;by_cases h:s<0
 ·rw[show unitOf s=0 by simp only[unitOf];rw[if_neg (by omega),if_neg (by omega),if_neg (by omega)]]
  go_enter Tryz.func191,Tryz.ntmps191;go_wp2;go_ret
  exact⟨rfl,HB.out⟩
 ·by_cases h2:2<s
  ·rw[show unitOf s=0 by simp only[unitOf];rw[if_neg (by omega),if_neg (by omega),if_neg (by omega)]]
   go_enter Tryz.func191,Tryz.ntmps191;go_wp2;go_ret
   exact⟨rfl,HB.out⟩
  ·obtain rfl|rfl|rfl:s=0\/s=1\/s=2:=by omega
   ·rw[show unitOf 0=1 from rfl]
    clear h h2;go_enter Tryz.func191,Tryz.ntmps191;go_wp2;go_ret
    exact⟨rfl,HB.out⟩
   ·rw[show unitOf 1=10 from rfl]
    clear h h2;go_enter Tryz.func191,Tryz.ntmps191;go_wp2;go_ret
    exact⟨rfl,HB.out⟩
   ·rw[show unitOf 2=100 from rfl]
    clear h h2;go_enter Tryz.func191,Tryz.ntmps191;go_wp2;go_ret
    exact⟨rfl,HB.out⟩
theorem ref_dm (n s:Int)(w:World):
  Calls Tryz.prog 137 #[.int .i64 n,.int .i64 s] w fun e w'=>e= .returned (pair (dmOf n s))/\Below w.heap.size w w':=by
 have hu:=unit_cases s;have c:=ref_unit s w;rw[dmOf];generalize unitOf s=u at*;have C:=zq c;clear c;by_cases h0:u=0
 ·subst h0
  rw[if_pos rfl];clear hu;go_enter Tryz.func137,Tryz.ntmps137;go_wp2_with fail;refine(C.out).mono ?_;rintro e w' ⟨rfl,hb⟩;have HB:=zq hb;clear hb;go_wp2;go_ret2
  exact⟨rfl,HB.out⟩
 ·rw[if_neg h0]
  by_cases hn:n<0\/32766<n
  ·rw[if_pos hn]
   obtain h|⟨g,h⟩:n<0\/(¬n<0/\32766<n):=by omega
   ·clear hu hn
    go_enter Tryz.func137,Tryz.ntmps137;go_wp2_with fail;refine(C.out).mono ?_;rintro e w' ⟨rfl,hb⟩;have HB:=zq hb;clear hb;go_wp2;go_ret2
    exact⟨rfl,HB.out⟩
   ·clear hu hn
    go_enter Tryz.func137,Tryz.ntmps137;go_wp2_with fail;refine(C.out).mono ?_;rintro e w' ⟨rfl,hb⟩;have HB:=zq hb;clear hb;go_wp2;go_ret2
    exact⟨rfl,HB.out⟩
  ·rw[if_neg hn]
   obtain⟨h1,h2⟩: ¬n<0/\ ¬32766<n:=by omega
   have hb:0<=n*u/\n*u<=3276600:=by
    rcases hu with rfl|rfl|rfl|rfl<;>omega
   have hm:wrap64 (n*u)=n*u:=by simp only[wrap64];omega
   clear hu hn;go_enter Tryz.func137,Tryz.ntmps137;go_wp2_with fail;refine(C.out).mono ?_;rintro e w' ⟨rfl,hb⟩;have HB:=zq hb;clear hb;go_wp2;go_ret2
   exact⟨rfl,HB.out⟩
end
end Go.Proofs.YtahadmeilajdgaaGreatDoor
