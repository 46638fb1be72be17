/-
  Our own text, joined.
-/
import Derived.Test.YtahadmeilajdgaaGreatDoorMraa
namespace Go.Proofs.YtahadmeilajdgaaGreatDoor
set_option maxRecDepth 100000
section
structure Sn3 where
 edge:Int
 lo:Int
 hi:Int
def hasS (s:Sn3)(e x:Int):Bool:=decide (0<=s.edge) &&(decide (0<=s.lo) &&(decide (s.hi<=1000000) &&(decide (s.edge=e) &&(decide (s.lo<=x) &&decide (x<s.hi)))))
theorem qa5 {s:Sn3}{e x:Int}:hasS s e x=true↔0<=s.edge/\0<=s.lo/\s.hi<=1000000/\s.edge=e/\s.lo<=x/\x<s.hi:=by
 unfold hasS;simp only[Bool.and_eq_true,decide_eq_true_eq]
def hasL (l:List Sn3)(e x:Int):Bool:=l.any fun s=>hasS s e x
theorem qcq {l:List Sn3}{e x:Int}:hasL l e x=true↔ ∃s∈l,hasS s e x=true:=List.any_eq_true
theorem hasL_app (a b:List Sn3)(e x:Int):hasL (a++b) e x=(hasL a e x||hasL b e x):=List.any_append
structure Kp3 where
 one:Bool
 other:Bool
 common:Bool
def wantB (k:Kp3)(x y:Bool):Bool:=((k.one &&x) &&!y)||(((k.other &&y) &&!x)||((k.common &&x) &&y))
theorem want_none (k:Kp3):wantB k false false=false:=by
 obtain⟨a,b,c⟩:=k
 cases a<;>cases b<;>cases c<;>rfl
/-! Numbers that rise, with one more. -/
def insL (n:Int):List Int->List Int
 |[]=>[n]
 |x::r=>if x=n then x::r else if n<x then n::x::r else x::insL n r
theorem ins_mem {n y:Int}{l:List Int}:y∈insL n l↔y=n\/y∈l:=by
 induction l with
 |nil=>simp[insL]
 |cons x r ih=>
  unfold insL;split
  ·rename_i h;subst h;simp
  ·split
   ·simp
   ·rw[List.mem_cons,ih,List.mem_cons]
    constructor
    ·rintro(h|h|h)
     ·exact .inr (.inl h)
     ·exact .inl h
     ·exact .inr (.inr h)
    ·rintro(h|h|h)
     ·exact .inr (.inl h)
     ·exact .inl h
     ·exact .inr (.inr h)
theorem qex {n:Int}{l:List Int}(h:l.Pairwise (· < ·)):(insL n l).Pairwise (· < ·):=by
 induction l with
 |nil=>simp[insL]
 |cons x r ih=>
  rw[List.pairwise_cons]at h;unfold insL;split
  ·rw[List.pairwise_cons];exact h
  ·rename_i hne
   split
   ·rename_i hlt
    rw[List.pairwise_cons,List.pairwise_cons];refine⟨fun y hy=>?_,h⟩
    rcases List.mem_cons.1 hy with rfl|hy
    ·exact hlt
    ·exact Int.lt_trans hlt (h.1 y hy)
   ·rename_i hge
    rw[List.pairwise_cons];refine⟨fun y hy=>?_,ih h.2⟩
    rcases ins_mem.1 hy with rfl|hy
    ·omega
    ·exact h.1 y hy
def qdZ (q:List Int)(l:List Sn3):List Int:=l.foldl (fun q s=>insL s.edge q) q
def endsF (q:List Int)(l:List Sn3):List Int:=l.foldl (fun q s=>insL s.hi (insL s.lo q)) q
theorem qf1 (q:List Int)(s:Sn3)(l:List Sn3):qdZ q (s::l)=qdZ (insL s.edge q) l:=rfl
theorem ends_cons (q:List Int)(s:Sn3)(l:List Sn3):endsF q (s::l)=endsF (insL s.hi (insL s.lo q)) l:=rfl
theorem edges_sorted {q:List Int}(h:q.Pairwise (· < ·))(l:List Sn3):(qdZ q l).Pairwise (· < ·):=by
 induction l generalizing q with
 |nil=>exact h
 |cons s r ih=>rw[qf1];exact ih (qex h)
theorem qcd {q:List Int}(h:q.Pairwise (· < ·))(l:List Sn3):(endsF q l).Pairwise (· < ·):=by
 induction l generalizing q with
 |nil=>exact h
 |cons s r ih=>rw[ends_cons];exact ih (qex (qex h))
theorem edges_mem {q:List Int}{l:List Sn3}{y:Int}:y∈qdZ q l↔y∈q\/ ∃s∈l,y=s.edge:=by
 induction l generalizing q with
 |nil=>simp[qdZ]
 |cons s r ih=>
  rw[qf1,ih,ins_mem];simp only[List.mem_cons,exists_eq_or_imp]
  constructor
  ·rintro((h|h)|h)
   ·exact .inr (.inl h)
   ·exact .inl h
   ·exact .inr (.inr h)
  ·rintro(h|h|h)
   ·exact .inl (.inr h)
   ·exact .inl (.inl h)
   ·exact .inr h
theorem qe3 {q:List Int}{l:List Sn3}{y:Int}:y∈endsF q l↔y∈q\/ ∃s∈l,y=s.lo\/y=s.hi:=by
 induction l generalizing q with
 |nil=>simp[endsF]
 |cons s r ih=>
  rw[ends_cons,ih,ins_mem,ins_mem];simp only[List.mem_cons,exists_eq_or_imp]
  constructor
  ·rintro((h|h|h)|h)
   ·exact .inr (.inl (.inr h))
   ·exact .inr (.inl (.inl h))
   ·exact .inl h
   ·exact .inr (.inr h)
  ·rintro(h|(h|h)|h)
   ·exact .inl (.inr (.inr h))
   ·exact .inl (.inr (.inl h))
   ·exact .inl (.inl h)
   ·exact .inr h
def glue (e x y:Int):List Sn3->List Sn3
 |[]=>[⟨e,x,y⟩]
 |s::q=>if s.lo=y then⟨e,x,s.hi⟩::q else⟨e,x,y⟩::s::q
theorem qbW (e x y:Int)(s:Sn3)(q:List Sn3):glue e x y (s::q)=if s.lo=y then⟨e,x,s.hi⟩::q else⟨e,x,y⟩::s::q:=rfl
def segs (e:Int)(f:Int->Bool):List Int->List Sn3
 |[]=>[]
 |[_]=>[]
 |x::y::r=>if f x=true then glue e x y (segs e f (y::r))else segs e f (y::r)
def setHi (l:List Sn3)(y:Int):List Sn3:=
 match l.getLast? with
 |none=>[]
 |some s=>l.dropLast++[⟨s.edge,s.lo,y⟩]
theorem setHi_snoc (l:List Sn3)(s:Sn3)(y:Int):setHi (l++[s]) y=l++[⟨s.edge,s.lo,y⟩]:=by
 unfold setHi;rw[List.getLast?_concat,List.dropLast_concat]
def fin15 (e:Int)(f:Int->Bool):List Sn3->Bool->List Int->List Sn3
 |out,_,[]=>out
 |out,_,[_]=>out
 |out,o,x::y::r=>if f x=true then(if o=true then fin15 e f (setHi out y) true (y::r)else fin15 e f (out++[⟨e,x,y⟩]) true (y::r))else fin15 e f out false (y::r)
theorem segs_lo {e:Int}{f:Int->Bool}{x:Int}{l:List Int}(h:(x::l).Pairwise (· < ·)): ∀s∈segs e f (x::l),x<=s.lo/\s.lo<s.hi/\s.edge=e:=by
 induction l generalizing x with
 |nil=>intro s hs;cases hs
 |cons y r ih=>
  rw[List.pairwise_cons]at h;have hxy:x<y:=h.1 y (List.mem_cons_self ..);have ih':=ih h.2;intro s hs;unfold segs at hs;split at hs
  ·cases hq:segs e f (y::r)with
   |nil=>
    rw[hq]at hs;simp only[glue,List.mem_singleton]at hs;subst hs;exact⟨Int.le_refl _,hxy,rfl⟩
   |cons u q=>
    rw[hq]at hs ih';rw[qbW]at hs;split at hs
    ·rename_i hu
     rcases List.mem_cons.1 hs with rfl|hs
     ·have h1:=ih' u (List.mem_cons_self ..)
      exact⟨Int.le_refl _,show x<u.hi by omega,rfl⟩
     ·have h1:=ih' s (List.mem_cons_of_mem _ hs)
      exact⟨by omega,h1.2⟩
    ·rcases List.mem_cons.1 hs with rfl|hs
     ·exact⟨Int.le_refl _,hxy,rfl⟩
     ·have h1:=ih' s hs
      exact⟨by omega,h1.2⟩
  ·have h1:=ih' s hs
   exact⟨by omega,h1.2⟩
theorem fin_segs {e:Int}{f:Int->Bool}{l:List Int}(h:l.Pairwise (· < ·))(out:List Sn3):
  fin15 e f out false l=out++segs e f l/\ ∀x0 x r,l=x::r->fin15 e f (out++[⟨e,x0,x⟩]) true l=out++glue e x0 x (segs e f l):=by
 induction l generalizing out with
 |nil=>exact⟨by simp[fin15,segs],fun _ _ _ h=>by cases h⟩
 |cons x t ih=>
  cases t with
  |nil=>
   refine⟨by simp[fin15,segs],fun x0 x' r e0=>?_⟩;injection e0 with e1 e2
   subst e1;simp[fin15,segs,glue]
  |cons y r=>
   have hp:=h;rw[List.pairwise_cons]at h;have hxy:x<y:=h.1 y (List.mem_cons_self ..);refine⟨?_,fun x0 x' r' e0=>?_⟩
   ·unfold fin15 segs
    by_cases hf:f x=true
    ·rw[if_pos hf,if_pos hf,if_neg (by decide)]
     exact(ih h.2 out).2 x y r rfl
    ·rw[if_neg hf,if_neg hf]
     exact(ih h.2 out).1
   ·injection e0 with e1 e2
    subst e1;unfold fin15 segs;by_cases hf:f x=true
    ·rw[if_pos hf,if_pos hf,if_pos rfl,setHi_snoc,(ih h.2 out).2 x0 y r rfl]
     congr 1
     cases segs e f (y::r)with
     |nil=>simp[glue]
     |cons u q=>
      rw[qbW,qbW];by_cases hu:u.lo=y
      ·rw[if_pos hu,if_pos hu,qbW,if_pos rfl]
      ·rw[if_neg hu,if_neg hu,qbW,if_pos rfl]
    ·rw[if_neg hf,if_neg hf,(ih h.2 _).1,List.append_assoc]
     congr 1
     have hl:=segs_lo (e:=e) (f:=f) h.2
     cases hq:segs e f (y::r)with
     |nil=>rfl
     |cons u q=>
      rw[hq]at hl;have:=(hl u (List.mem_cons_self ..)).1;rw[qbW,if_neg (by omega)]
      rfl
theorem segs_pair {e:Int}{f:Int->Bool}{l:List Int}(h:l.Pairwise (· < ·)):(segs e f l).Pairwise fun s t=>s.hi<t.lo:=by
 induction l with
 |nil=>exact .nil
 |cons x t ih=>
  cases t with
  |nil=>exact .nil
  |cons y r=>
   rw[List.pairwise_cons]at h;have ih':=ih h.2;unfold segs;split
   ·have hl:=segs_lo (e:=e) (f:=f) h.2
    cases hq:segs e f (y::r)with
    |nil=>simp[glue]
    |cons u q=>
     rw[hq]at ih' hl;rw[qbW];have ih2:=ih';rw[List.pairwise_cons]at ih';split
     ·rw[List.pairwise_cons]
      exact⟨fun t ht=>ih'.1 t ht,ih'.2⟩
     ·rename_i hu
      rw[List.pairwise_cons];refine⟨fun t ht=>?_,ih2⟩;have hu2:=hl u (List.mem_cons_self ..);show y<t.lo
      rcases List.mem_cons.1 ht with rfl|ht
      ·omega
      ·have:=ih'.1 t ht
       omega
   ·exact ih'
def qdF (f:Int->Bool)(p:Int):List Int->Prop
 |[]=>False
 |[_]=>False
 |x::y::r=>(f x=true/\x<=p/\p<y)\/qdF f p (y::r)
theorem qe9 {e:Int}{f:Int->Bool}{l:List Int}(h:l.Pairwise (· < ·))(p:Int):(∃s∈segs e f l,s.lo<=p/\p<s.hi)↔qdF f p l:=by
 induction l with
 |nil=>simp[segs,qdF]
 |cons x t ih=>
  cases t with
  |nil=>simp[segs,qdF]
  |cons y r=>
   rw[List.pairwise_cons]at h;have hxy:x<y:=h.1 y (List.mem_cons_self ..);have hl:=segs_lo (e:=e) (f:=f) h.2;unfold segs qdF;rw[<-ih h.2];split
   ·rename_i hf
    cases hq:segs e f (y::r)with
    |nil=>simp[glue,hf]
    |cons u q=>
     rw[hq]at hl;have hu:=hl u (List.mem_cons_self ..);rw[qbW];split
     ·rename_i huy
      simp only[List.mem_cons,exists_eq_or_imp]
      constructor
      ·rintro(⟨h1,h2⟩|h1)
       ·by_cases hpy:p<y
        ·exact .inl ⟨hf,h1,hpy⟩
        ·exact .inr (.inl ⟨by omega,h2⟩)
       ·exact .inr (.inr h1)
      ·rintro(⟨_,h1,h2⟩|⟨h1,h2⟩|h1)
       ·exact .inl ⟨h1,by omega⟩
       ·exact .inl ⟨by omega,h2⟩
       ·exact .inr h1
     ·simp only[List.mem_cons,exists_eq_or_imp]
      constructor
      ·rintro(⟨h1,h2⟩|h1)
       ·exact .inl ⟨hf,h1,h2⟩
       ·exact .inr h1
      ·rintro(⟨_,h1,h2⟩|h1)
       ·exact .inl ⟨h1,h2⟩
       ·exact .inr h1
   ·rename_i hf
    constructor
    ·exact fun h=> .inr h
    ·rintro(⟨h1,_⟩|h1)
     ·exact absurd h1 hf
     ·exact h1
theorem hasS_const {s:Sn3}{e x p:Int}(hxp:x<=p)(h1: ¬(x<s.lo/\s.lo<=p))(h2: ¬(x<s.hi/\s.hi<=p)):hasS s e x=hasS s e p:=by
 rw[Bool.eq_iff_iff,qa5,qa5];omega
theorem any_congr15 {α:Type}{l:List α}{f g:α->Bool}(h: ∀x∈l,f x=g x):l.any f=l.any g:=by
 induction l with
 |nil=>rfl
 |cons x r ih=>rw[List.any_cons,List.any_cons,h x (List.mem_cons_self ..),ih fun y hy=>h y (List.mem_cons_of_mem _ hy)]
theorem qdw {l:List Sn3}{ends:List Int}(hc: ∀s∈l,s.lo∈ends/\s.hi∈ends){e x p:Int}(hxp:x<=p)(hn: ∀z∈ends,z<=x\/p<z):hasL l e x=hasL l e p:=
 any_congr15 fun s hs=>hasS_const hxp (fun h=>by have:=hn _ (hc s hs).1;omega) (fun h=>by have:=hn _ (hc s hs).2;omega)
theorem cover_iff {f:Int->Bool}{p:Int}{l:List Int}(h:l.Pairwise (· < ·)):qdF f p l↔ ∃x,x∈l/\f x=true/\x<=p/\(∀z∈l,z<=x\/p<z)/\ ∃z∈l,p<z:=by
 induction l with
 |nil=>simp[qdF]
 |cons x t ih=>
  cases t with
  |nil=>
   simp only[qdF,false_iff];rintro⟨a,h1,_,h2,_,z,h3,h4⟩;simp only[List.mem_singleton]at h1 h3;omega
  |cons y r=>
   have hp:=h;rw[List.pairwise_cons]at h;have hxy:x<y:=h.1 y (List.mem_cons_self ..);unfold qdF;rw[ih h.2]
   constructor
   ·rintro(⟨h1,h2,h3⟩|⟨a,h1,h2,h3,h4,z,h5,h6⟩)
    ·refine⟨x,List.mem_cons_self ..,h1,h2,fun z hz=>?_,y,List.mem_cons_of_mem _ (List.mem_cons_self ..),h3⟩
     rcases List.mem_cons.1 hz with rfl|hz
     ·exact .inl (Int.le_refl _)
     ·rcases List.mem_cons.1 hz with rfl|hz
      ·exact .inr h3
      ·have:=(List.pairwise_cons.1 h.2).1 z hz
       exact .inr (by omega)
    ·refine⟨a,List.mem_cons_of_mem _ h1,h2,h3,fun z hz=>?_,z,List.mem_cons_of_mem _ h5,h6⟩
     rcases List.mem_cons.1 hz with rfl|hz
     ·have:=h.1 a h1
      exact .inl (by omega)
     ·exact h4 z hz
   ·rintro⟨a,h1,h2,h3,h4,z,h5,h6⟩
    rcases List.mem_cons.1 h1 with rfl|h8
    ·refine .inl ⟨h2,h3,?_⟩
     rcases h4 y (List.mem_cons_of_mem _ (List.mem_cons_self ..))with h7|h7
     ·omega
     ·exact h7
    ·refine .inr ⟨a,h8,h2,h3,fun z hz=>h4 z (List.mem_cons_of_mem _ hz),?_⟩
     rcases List.mem_cons.1 h5 with h9|h9
     ·have:=h.1 a h8
      omega
     ·exact⟨z,h9,h6⟩
theorem below_max {l:List Int}{p:Int}(h: ∃z∈l,z<=p): ∃x∈l,x<=p/\ ∀z∈l,z<=x\/p<z:=by
 induction l with
 |nil=>obtain⟨z,hz,_⟩:=h;cases hz
 |cons y r ih=>
  by_cases h2: ∃z∈r,z<=p
  ·obtain⟨x,h3,h4,h5⟩:=ih h2
   by_cases h6:y<=p/\x<y
   ·refine⟨y,List.mem_cons_self ..,h6.1,fun z hz=>?_⟩
    rcases List.mem_cons.1 hz with rfl|hz
    ·exact .inl (Int.le_refl _)
    ·rcases h5 z hz with h7|h7
     ·exact .inl (by omega)
     ·exact .inr h7
   ·refine⟨x,List.mem_cons_of_mem _ h3,h4,fun z hz=>?_⟩
    rcases List.mem_cons.1 hz with rfl|hz
    ·omega
    ·exact h5 z hz
  ·obtain⟨z,hz,hzp⟩:=h
   rcases List.mem_cons.1 hz with rfl|hz
   ·refine⟨z,List.mem_cons_self ..,hzp,fun u hu=>?_⟩
    rcases List.mem_cons.1 hu with rfl|hu
    ·exact .inl (Int.le_refl _)
    ·exact .inr (Int.not_le.1 fun h=>h2 ⟨u,hu,h⟩)
   ·exact absurd ⟨z,hz,hzp⟩ h2
/-! The form. -/
def wantF (a b:List Sn3)(k:Kp3)(e x:Int):Bool:=wantB k (hasL a e x) (hasL b e x)
def finE (f:Int->Int->Bool)(ends:List Int):List Sn3->List Int->List Sn3
 |out,[]=>out
 |out,e::r=>finE f ends (fin15 e (f e) out false ends) r
def formL (a b:List Sn3)(k:Kp3):List Sn3:=finE (wantF a b k) (endsF [] (a++b)) [] (qdZ [] (a++b))
theorem finE_segs {f:Int->Int->Bool}{ends:List Int}(h:ends.Pairwise (· < ·))(out:List Sn3)(l:List Int):finE f ends out l=out++l.flatMap fun e=>segs e (f e) ends:=by
 induction l generalizing out with
 |nil=>simp[finE]
 |cons e r ih=>rw[finE,ih,(fin_segs h out).1,List.flatMap_cons,List.append_assoc]
theorem form_flat (a b:List Sn3)(k:Kp3):formL a b k=(qdZ [] (a++b)).flatMap fun e=>segs e (wantF a b k e) (endsF [] (a++b)):=by
 unfold formL;rw[finE_segs (qcd .nil _),List.nil_append]
theorem qdE {a b:List Sn3}{k:Kp3}{e p:Int}:qdF (wantF a b k e) p (endsF [] (a++b))↔wantF a b k e p=true:=by
 have hs:=qcd (q:=[]) .nil (a++b);have hca: ∀s∈a,s.lo∈endsF [] (a++b)/\s.hi∈endsF [] (a++b):=fun s h=>⟨qe3.2 (.inr ⟨s,List.mem_append_left _ h,.inl rfl⟩),qe3.2 (.inr ⟨s,List.mem_append_left _ h,.inr rfl⟩)⟩
 have hcb: ∀s∈b,s.lo∈endsF [] (a++b)/\s.hi∈endsF [] (a++b):=fun s h=>⟨qe3.2 (.inr ⟨s,List.mem_append_right _ h,.inl rfl⟩),qe3.2 (.inr ⟨s,List.mem_append_right _ h,.inr rfl⟩)⟩
 rw[cover_iff hs]
 constructor
 ·rintro⟨x,h1,h2,h3,h4,_⟩
  unfold wantF at h2⊢;rw[<-qdw hca h3 h4,<-qdw hcb h3 h4];exact h2
 ·intro h
  have hor:hasL a e p=true\/hasL b e p=true:=by
   unfold wantF at h
   cases h1:hasL a e p with
   |true=>exact .inl rfl
   |false=>
    cases h2:hasL b e p with
    |true=>exact .inr rfl
    |false=>rw[h1,h2,want_none]at h;cases h
  have hlh: ∃lo hi,lo∈endsF [] (a++b)/\hi∈endsF [] (a++b)/\lo<=p/\p<hi:=by
   rcases hor with h1|h1
   ·obtain⟨s,h2,h3⟩:=qcq.1 h1
    have h4:=qa5.1 h3;exact⟨s.lo,s.hi,(hca s h2).1,(hca s h2).2,h4.2.2.2.2.1,h4.2.2.2.2.2⟩
   ·obtain⟨s,h2,h3⟩:=qcq.1 h1
    have h4:=qa5.1 h3;exact⟨s.lo,s.hi,(hcb s h2).1,(hcb s h2).2,h4.2.2.2.2.1,h4.2.2.2.2.2⟩
  obtain⟨lo,hi,h1,h2,h3,h4⟩:=hlh;obtain⟨x,h5,h6,h7⟩:=below_max ⟨lo,h1,h3⟩;refine⟨x,h5,?_,h6,h7,hi,h2,h4⟩;unfold wantF at h⊢;rw[qdw hca h6 h7,qdw hcb h6 h7];exact h
theorem want_in {a b:List Sn3}{k:Kp3}{e p:Int}(h:wantF a b k e p=true):0<=e/\0<=p/\p<1000000/\e∈qdZ [] (a++b):=by
 have hor: ∃s∈a++b,hasS s e p=true:=by
  unfold wantF at h
  cases h1:hasL a e p with
  |true=>obtain⟨s,h2,h3⟩:=qcq.1 h1;exact⟨s,List.mem_append_left _ h2,h3⟩
  |false=>
   cases h2:hasL b e p with
   |true=>obtain⟨s,h2,h3⟩:=qcq.1 h2;exact⟨s,List.mem_append_right _ h2,h3⟩
   |false=>rw[h1,h2,want_none]at h;cases h
 obtain⟨s,h1,h2⟩:=hor;have h3:=qa5.1 h2;exact⟨by omega,by omega,by omega,edges_mem.2 (.inr ⟨s,h1,h3.2.2.2.1.symm⟩)⟩
def okN (s:Sn3):Prop:=0<=s.edge/\0<=s.lo/\s.lo<s.hi/\s.hi<=1000000
def aheadN (s t:Sn3):Prop:=s.edge<t.edge\/(s.edge=t.edge/\s.hi<t.lo)
def normP (l:List Sn3):Prop:=(∀s∈l,okN s)/\l.Pairwise aheadN
theorem qdU {a b:List Sn3}{k:Kp3}{e:Int}{s:Sn3}(h:s∈segs e (wantF a b k e) (endsF [] (a++b))):okN s/\s.edge=e:=by
 have hs:=qcd (q:=[]) .nil (a++b);have hlo:s.lo<s.hi/\s.edge=e:=by
  cases hq:endsF [] (a++b)with
  |nil=>rw[hq]at h;cases h
  |cons x r=>
   rw[hq]at h hs;exact(segs_lo hs s h).2
 have h1:=want_in (qdE.1 ((qe9 (e:=e) hs s.lo).1 ⟨s,h,Int.le_refl _,hlo.1⟩));have h2:=want_in (qdE.1 ((qe9 (e:=e) hs (s.hi-1)).1 ⟨s,h,by omega,by omega⟩));exact⟨⟨by rw[hlo.2];exact h1.1,h1.2.1,hlo.1,by omega⟩,hlo.2⟩
theorem qd2 (a b:List Sn3)(k:Kp3):normP (formL a b k):=by
 rw[form_flat];refine⟨fun s hs=>?_,?_⟩
 ·obtain⟨e,_,h⟩:=List.mem_flatMap.1 hs
  exact(qdU h).1
 ·have hp:=edges_sorted (q:=[]) .nil (a++b)
  generalize qdZ [] (a++b)=es at hp
  induction es with
  |nil=>exact .nil
  |cons e r ih=>
   rw[List.pairwise_cons]at hp;rw[List.flatMap_cons,List.pairwise_append];refine⟨?_,ih hp.2,fun s hs t ht=>?_⟩
   ·refine(segs_pair (qcd .nil _)).imp_of_mem fun hs ht h=>?_
    exact .inr ⟨(qdU hs).2.trans (qdU ht).2.symm,h⟩
   ·obtain⟨e2,h1,h2⟩:=List.mem_flatMap.1 ht
    refine .inl ?_;rw[(qdU hs).2,(qdU h2).2];exact hp.1 e2 h1
theorem qe4 (a b:List Sn3)(k:Kp3)(e x:Int):hasL (formL a b k) e x=wantB k (hasL a e x) (hasL b e x):=by
 show _=wantF a b k e x
 have hs:=qcd (q:=[]) .nil (a++b);rw[Bool.eq_iff_iff,form_flat,qcq,<-qdE,<-qe9 (e:=e) hs]
 constructor
 ·rintro⟨s,h1,h2⟩
  obtain⟨e2,h3,h4⟩:=List.mem_flatMap.1 h1;have h5:=qa5.1 h2;obtain rfl:e2=e:=by rw[<-(qdU h4).2];exact h5.2.2.2.1
  exact⟨s,h4,h5.2.2.2.2⟩
 ·rintro⟨s,h1,h2,h3⟩
  have h4:=qdU h1;have h5:=(want_in (qdE.1 ((qe9 (e:=e) hs x).1 ⟨s,h1,h2,h3⟩))).2.2.2;exact⟨s,List.mem_flatMap.2 ⟨e,h5,h1⟩,qa5.2 ⟨h4.1.1,h4.1.2.1,h4.1.2.2.2,h4.2,h2,h3⟩⟩
theorem norm_tail {s:Sn3}{l:List Sn3}(h:normP (s::l)):normP l:=⟨fun t ht=>h.1 t (List.mem_cons_of_mem _ ht),(List.pairwise_cons.1 h.2).2⟩
theorem qbz (s:Sn3)(l:List Sn3)(e x:Int):hasL (s::l) e x=(hasS s e x||hasL l e x):=List.any_cons
theorem ok_has {s:Sn3}(h:okN s){x:Int}(h1:s.lo<=x)(h2:x<s.hi):hasS s s.edge x=true:=qa5.2 ⟨h.1,h.2.1,h.2.2.2,rfl,h1,h2⟩
theorem qcZ {s:Sn3}{l:List Sn3}(h:normP (s::l)){e x:Int}(hx:hasL l e x=true):s.edge<e\/(s.edge=e/\s.hi<x):=by
 obtain⟨t,h1,h2⟩:=qcq.1 hx;have h3:=qa5.1 h2
 rcases(List.pairwise_cons.1 h.2).1 t h1 with h4|⟨h4,h5⟩
 ·exact .inl (by omega)
 ·exact .inr ⟨by omega,by omega⟩
theorem qgf {s:Sn3}{l:List Sn3}(h:normP (s::l)){e x:Int}(hx:hasL (s::l) e x=true):s.edge<e\/(s.edge=e/\s.lo<=x):=by
 rw[qbz,Bool.or_eq_true]at hx;have hs:=h.1 s (List.mem_cons_self ..)
 rcases hx with hx|hx
 ·have h3:=qa5.1 hx
  exact .inr ⟨h3.2.2.2.1,h3.2.2.2.2.1⟩
 ·rcases qcZ h hx with h4|⟨h4,h5⟩
  ·exact .inl h4
  ·exact .inr ⟨h4,by have:=hs.2.2.1;omega⟩
theorem norm_hi {s t:Sn3}{l m:List Sn3}(hl:normP (s::l))(hm:normP (t::m))(he:s.edge=t.edge)(hlo:s.lo=t.lo)(h: ∀e x,hasL (s::l) e x=true->hasL (t::m) e x=true):s.hi<=t.hi:=by
 refine Int.not_lt.1 fun hlt=>?_;have hs:=hl.1 s (List.mem_cons_self ..);have ht:=hm.1 t (List.mem_cons_self ..);have h1:hasL (s::l) s.edge t.hi=true:=by
  rw[qbz,ok_has hs (by have:=ht.2.2.1;omega) hlt]
  rfl
 have h2:=h _ _ h1;rw[qbz,Bool.or_eq_true]at h2
 rcases h2 with h2|h2
 ·have:=qa5.1 h2
  omega
 ·rcases qcZ hm h2 with h3|⟨_,h3⟩<;>omega
theorem qde {l m:List Sn3}(hl:normP l)(hm:normP m)(h: ∀e x,hasL l e x=hasL m e x):l=m:=by
 induction l generalizing m with
 |nil=>
  cases m with
  |nil=>rfl
  |cons t m=>
   have ht:=hm.1 t (List.mem_cons_self ..);have:=h t.edge t.lo;rw[qbz,ok_has ht (Int.le_refl _) ht.2.2.1]at this
   cases this
 |cons s l ih=>
  have hs:=hl.1 s (List.mem_cons_self ..)
  cases m with
  |nil=>
   have:=h s.edge s.lo;rw[qbz,ok_has hs (Int.le_refl _) hs.2.2.1]at this
   cases this
  |cons t m=>
   have ht:=hm.1 t (List.mem_cons_self ..);have h1:hasL (s::l) s.edge s.lo=true:=by rw[qbz,ok_has hs (Int.le_refl _) hs.2.2.1];rfl
   have h2:hasL (t::m) t.edge t.lo=true:=by rw[qbz,ok_has ht (Int.le_refl _) ht.2.2.1];rfl
   have h3:=qgf hm ((h _ _).symm.trans h1);have h4:=qgf hl ((h _ _).trans h2);have he:s.edge=t.edge:=by omega
   have hlo:s.lo=t.lo:=by omega
   have hhi:s.hi=t.hi:=Int.le_antisymm (norm_hi hl hm he hlo fun e x h5=>(h e x).symm.trans h5) (norm_hi hm hl he.symm hlo.symm fun e x h5=>(h e x).trans h5);have hst:s=t:=by
    obtain⟨x,y,z⟩:=s;obtain⟨u,v,w⟩:=t;simp only at he hlo hhi;rw[he,hlo,hhi]
   subst hst
   congr 1
   refine ih (norm_tail hl) (norm_tail hm) fun e x=>?_;have h5:=h e x;rw[qbz,qbz]at h5
   cases hq:hasS s e x with
   |false=>rw[hq,Bool.false_or,Bool.false_or]at h5;exact h5
   |true=>
    have h6:=qa5.1 hq;have e1:hasL l e x=false:=by
     cases h7:hasL l e x with
     |false=>rfl
     |true=>rcases qcZ hl h7 with h8|⟨_,h8⟩<;>omega
    have e2:hasL m e x=false:=by
     cases h7:hasL m e x with
     |false=>rfl
     |true=>rcases qcZ hm h7 with h8|⟨_,h8⟩<;>omega
    rw[e1,e2]
end
section
structure Ps3 where
 edge:Int
 at_:Int
 rev:Bool
def stepP (p:Ps3):St3:=⟨p.edge,p.rev⟩
def qau (t:Tp3)(e:Int):Int:=t.edges.getD e.toNat 0
theorem qb7 (t:Tp3)(s:St3):lenAt t s=qau t s.edge:=rfl
def onB (t:Tp3)(p:Ps3):Bool:=edgeB t p.edge &&(decide (0<=p.at_) &&decide (p.at_<=qau t p.edge))
def qa4 (t:Tp3)(p:Ps3):Bool:=decide (qax t=0) &&onB t p
def qaA (t:Tp3)(p:Ps3):Int:=if p.rev=true then p.at_ else qau t p.edge-p.at_
def qbt (p:Ps3)(n:Int):Ps3:=if p.rev=true then⟨p.edge,p.at_-n,true⟩else⟨p.edge,p.at_+n,false⟩
def qb1 (t:Tp3)(s:St3):Ps3:=if s.rev=true then⟨s.edge,qau t s.edge,true⟩else⟨s.edge,0,false⟩
def zeroP:Ps3:=⟨0,0,false⟩
theorem qbu {t:Tp3}{p:Ps3}:onB t p=true↔edgeB t p.edge=true/\0<=p.at_/\p.at_<=qau t p.edge:=by
 unfold onB;simp only[Bool.and_eq_true,decide_eq_true_eq]
theorem qcM (p:Ps3)(n:Int):stepP (qbt p n)=stepP p:=by
 obtain⟨e,a,r⟩:=p
 cases r<;>rfl
theorem qbN (t:Tp3)(p:Ps3)(n:Int):qaA t (qbt p n)=qaA t p-n:=by
 obtain⟨e,a,r⟩:=p
 cases r
 ·show qau t e-(a+n)=qau t e-a-n
  omega
 ·rfl
theorem qfo (p:Ps3)(n m:Int):qbt (qbt p n) m=qbt p (n+m):=by
 obtain⟨e,a,r⟩:=p
 cases r
 ·show(⟨e,a+n+m,false⟩:Ps3)=⟨e,a+(n+m),false⟩
  rw[Int.add_assoc]
 ·show(⟨e,a-n-m,true⟩:Ps3)=⟨e,a-(n+m),true⟩
  rw[show a-n-m=a-(n+m)from by omega]
theorem qgc (p:Ps3):qbt p 0=p:=by
 obtain⟨e,a,r⟩:=p
 cases r
 ·show(⟨e,a+0,false⟩:Ps3)=⟨e,a,false⟩
  rw[Int.add_zero]
 ·show(⟨e,a-0,true⟩:Ps3)=⟨e,a,true⟩
  rw[Int.sub_zero]
theorem qcL (t:Tp3)(s:St3):stepP (qb1 t s)=s:=by
 obtain⟨e,r⟩:=s
 cases r<;>rfl
theorem qbM (t:Tp3)(s:St3):qaA t (qb1 t s)=lenAt t s:=by
 obtain⟨e,r⟩:=s
 cases r
 ·exact Int.sub_zero _
 ·rfl
theorem moved_on {t:Tp3}{p:Ps3}(h:onB t p=true){n:Int}(h0:0<=n)(hn:n<=qaA t p):onB t (qbt p n)=true:=by
 obtain⟨e,a,r⟩:=p;obtain⟨h1,h2,h3⟩:=qbu.1 h;simp only at h1 h2 h3
 cases r
 ·have hn':n<=qau t e-a:=hn
  exact qbu.2 ⟨h1,show 0<=a+n by omega,show a+n<=qau t e by omega⟩
 ·have hn':n<=a:=hn
  exact qbu.2 ⟨h1,show 0<=a-n by omega,show a-n<=qau t e by omega⟩
theorem begin_on {t:Tp3}(ht:qaF t=true){s:St3}(h:edgeB t s.edge=true):onB t (qb1 t s)=true:=by
 have h1:=qa2 ht h;obtain⟨e,r⟩:=s;have h2:1<=qau t e:=h1.1
 cases r
 ·exact qbu.2 ⟨h,Int.le_refl 0,show(0:Int)<=qau t e by omega⟩
 ·exact qbu.2 ⟨h,show(0:Int)<=qau t e by omega,Int.le_refl _⟩
theorem qdr {t:Tp3}(ht:qaF t=true){p:Ps3}(h:onB t p=true):0<=qaA t p/\qaA t p<=1000000:=by
 obtain⟨h1,h2,h3⟩:=qbu.1 h;have h4:=qa2 ht (s:=stepP p) h1;rw[qb7]at h4;have h5:qau t (stepP p).edge=qau t p.edge:=rfl;rw[h5]at h4;unfold qaA;split<;>omega
def walkF (t:Tp3):Nat->Ps3->Int->Ps3×Int
 |0,p,n=>if n<=qaA t p then(qbt p n,0)else if(qaC t (stepP p)).length=0 then(zeroP,141)else if 1<(qaC t (stepP p)).length then(zeroP,140)else(zeroP,2)
 |k+1,p,n=>if n<=qaA t p then(qbt p n,0)else if(qaC t (stepP p)).length=0 then(zeroP,141)else if 1<(qaC t (stepP p)).length then(zeroP,140)else walkF t k (qb1 t ((qaC t (stepP p)).getD 0 ⟨0,false⟩)) (n-qaA t p)
theorem qdo {t:Tp3}{k:Nat}{p:Ps3}{n:Int}(h:n<=qaA t p):walkF t k p n=(qbt p n,0):=by
 cases k<;>rw[walkF,if_pos h]
theorem walk_end {t:Tp3}{k:Nat}{p:Ps3}{n:Int}(h: ¬n<=qaA t p)(h1:(qaC t (stepP p)).length=0):walkF t k p n=(zeroP,141):=by
 cases k<;>rw[walkF,if_neg h,if_pos h1]
theorem qfM {t:Tp3}{k:Nat}{p:Ps3}{n:Int}(h: ¬n<=qaA t p)(h1:1<(qaC t (stepP p)).length):walkF t k p n=(zeroP,140):=by
 cases k<;>rw[walkF,if_neg h,if_neg (by omega),if_pos h1]
theorem walk_long {t:Tp3}{p:Ps3}{n:Int}(h: ¬n<=qaA t p)(h1:(qaC t (stepP p)).length=1):walkF t 0 p n=(zeroP,2):=by
 rw[walkF,if_neg h,if_neg (by omega),if_neg (by omega)]
theorem walk_on {t:Tp3}{k:Nat}{p:Ps3}{n:Int}{s:St3}(h: ¬n<=qaA t p)(h1:qaC t (stepP p)=[s]):walkF t (k+1) p n=walkF t k (qb1 t s) (n-qaA t p):=by
 rw[walkF,if_neg h,h1]
 rfl
theorem len_one {α:Type}{l:List α}(h:l.length=1): ∃s,l=[s]:=List.length_eq_one_iff.1 h
theorem qgv (t:Tp3)(k:Nat)(p:Ps3)(n:Int):
  (n<=qaA t p/\walkF t k p n=(qbt p n,0))\/(¬n<=qaA t p/\((∃e,walkF t k p n=(zeroP,e)/\(e=141\/e=140\/e=2)/\(e=2->k=0))\/ ∃s j,k=j+1/\qaC t (stepP p)=[s]/\walkF t k p n=walkF t j (qb1 t s) (n-qaA t p))):=by
 by_cases h:n<=qaA t p
 ·exact .inl ⟨h,qdo h⟩
 ·refine .inr ⟨h,?_⟩
  by_cases h1:(qaC t (stepP p)).length=0
  ·exact .inl ⟨141,walk_end h h1,.inl rfl,fun e=>absurd e (by decide)⟩
  ·by_cases h2:1<(qaC t (stepP p)).length
   ·exact .inl ⟨140,qfM h h2,.inr (.inl rfl),fun e=>absurd e (by decide)⟩
   ·have h3:(qaC t (stepP p)).length=1:=by omega
    cases k with
    |zero=>exact .inl ⟨2,walk_long h h3,.inr (.inr rfl),fun _=>rfl⟩
    |succ j=>
     obtain⟨s,hs⟩:=len_one h3;exact .inr ⟨s,j,rfl,hs,walk_on h hs⟩
def onGo (t:Tp3)(p:Ps3):List St3->Int->Option Int
 |[],_=>none
 |s::r,n=>if eqS s (stepP p)=true then some (n+lenAt t s-qaA t p)else onGo t p r (n+lenAt t s)
def offGo (t:Tp3):List St3->Int->Ps3
 |[],_=>zeroP
 |s::r,n=>if n<=lenAt t s then qbt (qb1 t s) n else offGo t r (n-lenAt t s)
theorem on_app {t:Tp3}{p:Ps3}{a b:List St3}{c:Int}(h: ∀s∈a,s≠stepP p):onGo t p (a++b) c=onGo t p b (c+sumT t a):=by
 induction a generalizing c with
 |nil=>
  show onGo t p b c=onGo t p b (c+0)
  rw[Int.add_zero]
 |cons x r ih=>
  show onGo t p (x::(r++b)) c=_
  rw[onGo,if_neg (by rw[qaI];exact h x (List.mem_cons_self ..)),ih fun s hs=>h s (List.mem_cons_of_mem _ hs),show c+sumT t (x::r)=c+(lenAt t x+sumT t r)from rfl,Int.add_assoc]
theorem along_here {t:Tp3}{k:Nat}{s:St3}{r:List St3}{a m:Int}(ht:qaF t=true)(he: ∀x∈s::r,edgeB t x.edge=true)(hw:wayB t (s::r)=true)(ha:0<=a)(hal:a<=lenAt t s)(hm:0<=m)(hs:a+m<=sumT t (s::r))(hk:r.length<=k):walkF t k (qbt (qb1 t s) a) m=(offGo t (s::r) (a+m),0)\/(walkF t k (qbt (qb1 t s) a) m).2=140:=by
 induction r generalizing k s a m with
 |nil=>
  have h1:a+m<=lenAt t s:=by
   have:sumT t [s]=lenAt t s+0:=rfl;omega
  rw[qdo (by rw[qbN,qbM];omega),qfo,offGo,if_pos h1];exact .inl rfl
 |cons y r ih=>
  by_cases h:a+m<=lenAt t s
  ·rw[qdo (by rw[qbN,qbM];omega),qfo,offGo,if_pos h]
   exact .inl rfl
  ·rw[wayB,Bool.and_eq_true]at hw
   have hx: ¬m<=qaA t (qbt (qb1 t s) a):=by rw[qbN,qbM];omega
   have hst:stepP (qbt (qb1 t s) a)=s:=by rw[qcM,qcL]
   have hy:y∈qaC t s:=qbw.2 ⟨he s (List.mem_cons_self ..),he y (by simp),hw.1⟩;have hl:(qaC t s).length≠0:=by
    intro h0;rw[List.length_eq_zero_iff.1 h0]at hy
    cases hy
   by_cases h2:1<(qaC t s).length
   ·rw[qfM hx (by rw[hst];exact h2)]
    exact .inr rfl
   ·obtain⟨z,hz⟩:=len_one (l:=qaC t s) (by omega)
    have:y=z:=by
     rw[hz]at hy;exact List.mem_singleton.1 hy
    subst this;obtain⟨j,rfl⟩: ∃j,k=j+1:=⟨k-1,by rw[List.length_cons]at hk;omega⟩
    have h3:sumT t (s::y::r)=lenAt t s+sumT t (y::r):=rfl;have h4:=qa2 ht (he y (by simp));have:=ih (k:=j) (s:=y) (a:=0) (m:=m-(lenAt t s-a)) (fun x hx=>he x (List.mem_cons_of_mem _ hx)) hw.2 (Int.le_refl 0) (by omega) (by omega) (by omega) (by rw[List.length_cons]at hk;omega);rw[walk_on hx (by rw[hst];exact hz),qbN,qbM,offGo,if_neg h,show a+m-lenAt t s=0+(m-(lenAt t s-a))from by omega];rw[qgc]at this;exact this
theorem along {t:Tp3}{path:List St3}{n m:Int}{k:Nat}(ht:qaF t=true)(he: ∀x∈path,edgeB t x.edge=true)(hw:wayB t path=true)(h0:0<=n)(hm:0<=m)(hs:n+m<=sumT t path)(hp:path≠[])(hk:path.length<=k):walkF t k (offGo t path n) m=(offGo t path (n+m),0)\/(walkF t k (offGo t path n) m).2=140:=by
 induction path generalizing n with
 |nil=>exact absurd rfl hp
 |cons s r ih=>
  have h3:sumT t (s::r)=lenAt t s+sumT t r:=rfl;by_cases h:n<=lenAt t s
  ·have h1:offGo t (s::r) n=qbt (qb1 t s) n:=by rw[offGo,if_pos h]
   rw[h1];exact along_here ht he hw h0 h hm hs (by rw[List.length_cons]at hk;omega)
  ·have hr:r≠[]:=by
    rintro rfl;have:sumT t []=0:=rfl;omega
   have h1:offGo t (s::r) n=offGo t r (n-lenAt t s):=by rw[offGo,if_neg h]
   have h2:offGo t (s::r) (n+m)=offGo t r (n-lenAt t s+m):=by rw[offGo,if_neg (by omega),show n+m-lenAt t s=n-lenAt t s+m from by omega]
   rw[h1,h2];refine ih (fun x hx=>he x (List.mem_cons_of_mem _ hx)) ?_ (by omega) (by omega) hr (by rw[List.length_cons]at hk;omega)
   cases r with
   |nil=>exact absurd rfl hr
   |cons y r=>
    rw[wayB,Bool.and_eq_true]at hw;exact hw.2
def walkE (t:Tp3)(p:Ps3)(n:Int):Ps3×Int:=if qa4 t p=true/\0<=n/\n<=1099511627776 then walkF t 40 p n else(zeroP,1)
def locE (t:Tp3)(id:Int)(rev:Bool)(n:Int):Ps3×Int:=if qax t=0 then(match balF t id with|some b=>walkE t ⟨b.edge,b.at_,rev⟩ n|none=>(zeroP,4))else(zeroP,1)
def onE (t:Tp3)(path:List St3)(p:Ps3):Int×Int:=if qa4 t p=true then(if lenE t path=0 then(match onGo t p path 0 with|some n=>(n,0)|none=>(0,4))else(0,lenE t path))else(0,1)
theorem qd8 {t:Tp3}{path:List St3}(h:lenE t path=0):path≠[]/\path.length<=40/\(∀s∈path,edgeB t s.edge=true)/\wayB t path=true:=by
 unfold lenE at h;split at h
 ·exact absurd h (by decide)
 ·rename_i h1
  split at h
  ·rename_i h2
   split at h
   ·rename_i h3
    rw[List.all_eq_true]at h2;refine⟨?_,by omega,h2,h3⟩;rintro rfl;exact h1 (.inl rfl)
   ·exact absurd h (by decide)
  ·exact absurd h (by decide)
theorem qaQ {t:Tp3}{p:Ps3}:qa4 t p=true↔qax t=0/\onB t p=true:=by
 unfold qa4;rw[Bool.and_eq_true,decide_eq_true_eq]
end
section
def normL (l:List Sn3):List Sn3:=formL l [] ⟨true,false,false⟩
def qfL (a b:List Sn3):List Sn3:=formL a b ⟨true,true,true⟩
def qdG (a b:List Sn3):List Sn3:=formL a b ⟨true,false,false⟩
def bothL (a b:List Sn3):List Sn3:=formL a b ⟨false,false,true⟩
def withinL (a b:List Sn3):Bool:=(qdG a b).isEmpty
def qea (a b:List Sn3):Bool:=!(bothL a b).isEmpty
def sumN:List Sn3->Int
 |[]=>0
 |s::r=>s.hi-s.lo+sumN r
def totalL (l:List Sn3):Int:=sumN (normL l)
theorem norm_has (l:List Sn3)(e x:Int):hasL (normL l) e x=hasL l e x:=by
 unfold normL;rw[qe4,show hasL [] e x=false from rfl]
 cases hasL l e x<;>rfl
theorem qeo (a b:List Sn3)(e x:Int):hasL (qfL a b) e x=(hasL a e x||hasL b e x):=by
 unfold qfL;rw[qe4]
 cases hasL a e x<;>cases hasL b e x<;>rfl
theorem qeb (a b:List Sn3)(e x:Int):hasL (qdG a b) e x=(hasL a e x &&!hasL b e x):=by
 unfold qdG;rw[qe4]
 cases hasL a e x<;>cases hasL b e x<;>rfl
theorem qcS (a b:List Sn3)(e x:Int):hasL (bothL a b) e x=(hasL a e x &&hasL b e x):=by
 unfold bothL;rw[qe4]
 cases hasL a e x<;>cases hasL b e x<;>rfl
theorem qdO (l:List Sn3):normP (normL l):=qd2 _ _ _
theorem qdn (a b:List Sn3):normP (qfL a b):=qd2 _ _ _
theorem qdd (a b:List Sn3):normP (qdG a b):=qd2 _ _ _
theorem qca (a b:List Sn3):normP (bothL a b):=qd2 _ _ _
theorem norm_self {l:List Sn3}(h:normP l):normL l=l:=qde (qdO l) h fun e x=>norm_has l e x
theorem nil_normal:normP []:=⟨fun _ h=>(by cases h),List.Pairwise.nil⟩
theorem empty_iff {l:List Sn3}(h:normP l):l.isEmpty=true↔ ∀e x,hasL l e x=false:=by
 constructor
 ·intro h1 e x
  rw[List.isEmpty_iff.1 h1]
  rfl
 ·intro h1
  rw[List.isEmpty_iff];exact qde h nil_normal fun e x=>(h1 e x).trans rfl
theorem qgx {a b:List Sn3}:withinL a b=true↔ ∀e x,hasL a e x=true->hasL b e x=true:=by
 unfold withinL;rw[empty_iff (qdd a b)]
 constructor
 ·intro h e x h1
  have h2:=h e x;rw[qeb,h1]at h2
  cases h3:hasL b e x with
  |true=>rfl
  |false=>rw[h3]at h2;cases h2
 ·intro h e x
  rw[qeb]
  cases h1:hasL a e x with
  |false=>rfl
  |true=>rw[h e x h1];rfl
theorem meets_iff {a b:List Sn3}:qea a b=true↔ ∃e x,hasL a e x=true/\hasL b e x=true:=by
 have h0:qea a b=false↔ ∀e x,hasL (bothL a b) e x=false:=by
  unfold qea;rw[<-empty_iff (qca a b)]
  cases(bothL a b).isEmpty<;>simp
 constructor
 ·intro h
  refine Classical.byContradiction fun hc=>?_;have h1:=h0.2 fun e x=>by
   rw[qcS]
   cases h2:hasL a e x with
   |false=>rfl
   |true=>
    cases h3:hasL b e x with
    |false=>rfl
    |true=>exact absurd ⟨e,x,h2,h3⟩ hc
  rw[h]at h1
  cases h1
 ·rintro⟨e,x,h1,h2⟩
  cases h3:qea a b with
  |true=>rfl
  |false=>
   have:=h0.1 h3 e x;rw[qcS,h1,h2]at this
   cases this
/-! How many. -/
def cntX:Nat->(Int->Bool)->Nat
 |0,_=>0
 |n+1,p=>cntX n p+(if p n=true then 1 else 0)
theorem cntX_or {p q:Int->Bool}(n:Nat)(h: ∀x,¬(p x=true/\q x=true)):cntX n (fun x=>p x||q x)=cntX n p+cntX n q:=by
 induction n with
 |zero=>rfl
 |succ n ih=>
  rw[cntX,cntX,cntX,ih];have h1:=h n
  cases hp:p n<;>cases hq:q n
  ·simp
  ·simp;omega
  ·simp;omega
  ·exact absurd ⟨hp,hq⟩ h1
theorem cntX_none {p:Int->Bool}(n:Nat)(h: ∀x,p x=false):cntX n p=0:=by
 induction n with
 |zero=>rfl
 |succ n ih=>rw[cntX,ih,h];rfl
theorem cntX_iv {p:Int->Bool}{a b:Int}(n:Nat)(h: ∀x,p x=true↔a<=x/\x<b)(h0:0<=a)(hab:a<=b):(cntX n p:Int)=if(n:Int)<=a then 0 else if(n:Int)<=b then n-a else b-a:=by
 induction n with
 |zero=>rw[cntX,if_pos (by omega)];rfl
 |succ n ih=>
  rw[cntX];have h1:=h n;by_cases hp:p n=true
  ·have h2:=h1.1 hp
   rw[if_pos hp,Int.natCast_add,ih]
   (repeat' split)<;>omega
  ·have h2: ¬(a<=(n:Int)/\(n:Int)<b):=fun h3=>hp (h1.2 h3)
   rw[if_neg hp,Nat.add_zero,ih]
   (repeat' split)<;>omega
def cntE (n:Nat):Nat->(Int->Int->Bool)->Nat
 |0,_=>0
 |e+1,p=>cntE n e p+cntX n (p e)
theorem cntE_or {p q:Int->Int->Bool}(n m:Nat)(h: ∀e x,¬(p e x=true/\q e x=true)):cntE n m (fun e x=>p e x||q e x)=cntE n m p+cntE n m q:=by
 induction m with
 |zero=>rfl
 |succ m ih=>rw[cntE,cntE,cntE,ih,cntX_or n (h m)];omega
theorem cntE_none {p:Int->Int->Bool}(n m:Nat)(h: ∀e x,p e x=false):cntE n m p=0:=by
 induction m with
 |zero=>rfl
 |succ m ih=>rw[cntE,ih,cntX_none n (h m)]
theorem cntE_span {s:Sn3}(n m:Nat)(hs:okN s)(hn:s.hi<=n):(cntE n m (hasS s):Int)=if s.edge<m then s.hi-s.lo else 0:=by
 have hs':=hs;obtain⟨h1,h2,h3,h4⟩:=hs'
 induction m with
 |zero=>rw[cntE,if_neg (by omega)];rfl
 |succ m ih=>
  rw[cntE,Int.natCast_add,ih];by_cases he:s.edge=m
  ·rw[if_neg (by omega),if_pos (by omega),cntX_iv (a:=s.lo) (b:=s.hi) n (fun x=>by rw[qa5];omega) h2 (by omega),if_neg (by omega)]
   split<;>omega
  ·rw[cntX_none n fun x=>by
    cases hq:hasS s m x with
    |false=>rfl
    |true=>exact absurd (qa5.1 hq).2.2.2.1 he]
   split<;>split<;>omega
def djP (l:List Sn3):Prop:=(∀s∈l,okN s)/\l.Pairwise fun s t=> ∀e x,¬(hasS s e x=true/\hasS t e x=true)
theorem norm_dj {l:List Sn3}(h:normP l):djP l:=by
 refine⟨h.1,h.2.imp fun hst e x=>?_⟩;rintro⟨h1,h2⟩;have h3:=qa5.1 h1;have h4:=qa5.1 h2
 rcases hst with h5|⟨h5,h6⟩<;>omega
theorem sum_cnt {l:List Sn3}(n m:Nat)(h:djP l)(hn: ∀s∈l,s.hi<=n)(hm: ∀s∈l,s.edge<m):sumN l=cntE n m (hasL l):=by
 induction l with
 |nil=>rw[cntE_none (p:=hasL []) n m fun e x=>rfl];rfl
 |cons s r ih=>
  have h1:=List.pairwise_cons.1 h.2;have hd: ∀e x,¬(hasS s e x=true/\hasL r e x=true):=by
   rintro e x ⟨h2,h3⟩;obtain⟨t,h4,h5⟩:=qcq.1 h3;exact h1.1 t h4 e x ⟨h2,h5⟩
  have e0:hasL (s::r)=fun e x=>hasS s e x||hasL r e x:=funext fun e=>funext fun x=>qbz s r e x;rw[e0,cntE_or n m hd,Int.natCast_add,cntE_span n m (h.1 s (List.mem_cons_self ..)) (hn s (List.mem_cons_self ..)),if_pos (hm s (List.mem_cons_self ..)),<-ih ⟨fun t ht=>h.1 t (List.mem_cons_of_mem _ ht),h1.2⟩ (fun t ht=>hn t (List.mem_cons_of_mem _ ht)) fun t ht=>hm t (List.mem_cons_of_mem _ ht)]
  rfl
theorem edge_top (l:List Sn3): ∃m:Nat,∀s∈l,s.edge<m:=by
 induction l with
 |nil=>exact⟨0,fun _ h=>(by cases h)⟩
 |cons s r ih=>
  obtain⟨m,hm⟩:=ih;refine⟨m+s.edge.toNat+1,fun t ht=>?_⟩
  rcases List.mem_cons.1 ht with rfl|ht
  ·omega
  ·have:=hm t ht
   omega
theorem sum_split {a c d:List Sn3}(ha:djP a)(hc:djP c)(hd:djP d)(h1: ∀e x,hasL a e x=(hasL c e x||hasL d e x))(h2: ∀e x,¬(hasL c e x=true/\hasL d e x=true)):sumN a=sumN c+sumN d:=by
 obtain⟨m,hm⟩:=edge_top (a++(c++d));obtain⟨n,hn⟩: ∃n:Nat,n=1000000:=⟨_,rfl⟩
 have hb: ∀l,djP l-> ∀s∈l,s.hi<=n:=fun l hl s hs=>by
  have:=(hl.1 s hs).2.2.2;omega
 rw[sum_cnt n m ha (hb a ha) fun s hs=>hm s (List.mem_append_left _ hs),sum_cnt n m hc (hb c hc) fun s hs=>hm s (List.mem_append_right _ (List.mem_append_left _ hs)),sum_cnt n m hd (hb d hd) fun s hs=>hm s (List.mem_append_right _ (List.mem_append_right _ hs))];have e0:hasL a=fun e x=>hasL c e x||hasL d e x:=funext fun e=>funext fun x=>h1 e x;rw[e0,cntE_or n m h2,Int.natCast_add]
theorem parts (a b:List Sn3):qfL (bothL a b) (qdG a b)=normL a/\bothL b a=bothL a b/\qfL a b=qfL b a/\qea (bothL a b) (qdG a b)=false/\totalL (bothL a b)+totalL (qdG a b)=totalL a/\withinL (bothL a b) b=true/\withinL a (qfL a b)=true:=by
 have hd: ∀e x,¬(hasL (bothL a b) e x=true/\hasL (qdG a b) e x=true):=fun e x h=>by
  rw[qcS,qeb]at h
  cases h1:hasL a e x<;>cases h2:hasL b e x<;>rw[h1,h2]at h<;>simp at h
 have hu: ∀e x,hasL a e x=(hasL (bothL a b) e x||hasL (qdG a b) e x):=fun e x=>by
  rw[qcS,qeb]
  cases hasL a e x<;>cases hasL b e x<;>rfl
 refine⟨qde (qdn _ _) (qdO _) fun e x=>?_,qde (qca _ _) (qca _ _) fun e x=>?_,qde (qdn _ _) (qdn _ _) fun e x=>?_,?_,?_,qgx.2 fun e x h=>?_,qgx.2 fun e x h=>?_⟩
 ·rw[qeo,norm_has,<-hu]
 ·rw[qcS,qcS,Bool.and_comm]
 ·rw[qeo,qeo,Bool.or_comm]
 ·cases h:qea (bothL a b) (qdG a b)with
  |false=>rfl
  |true=>obtain⟨e,x,h1,h2⟩:=meets_iff.1 h;exact absurd ⟨h1,h2⟩ (hd e x)
 ·unfold totalL
  rw[norm_self (qca a b),norm_self (qdd a b)];exact(sum_split (norm_dj (qdO a)) (norm_dj (qca a b)) (norm_dj (qdd a b)) (fun e x=>by rw[norm_has,<-hu]) hd).symm
 ·rw[qcS,Bool.and_eq_true]at h
  exact h.2
 ·rw[qeo,h]
  rfl
/-! What a way goes over. -/
def partN (s:St3)(n a b:Int):List Sn3:=if a<b then[if s.rev=true then⟨s.edge,n-b,n-a⟩else⟨s.edge,a,b⟩]else[]
def cutA (fr at_:Int):Int:=if fr-at_<0 then 0 else fr-at_
def cutB (tz at_ n:Int):Int:=if n<tz-at_ then n else tz-at_
def ovGo (t:Tp3)(fr tz:Int):List St3->Int->List Sn3
 |[],_=>[]
 |s::r,at_=>partN s (lenAt t s) (cutA fr at_) (cutB tz at_ (lenAt t s))++ovGo t fr tz r (at_+lenAt t s)
def overE (t:Tp3)(path:List St3)(fr tz:Int):List Sn3×Int:=
 if lenE t path=0 then(if qaF t=true/\ ¬(fr<0\/tz<fr\/sumT t path<tz)then(normL (ovGo t fr tz path 0),0)else([],1))else([],lenE t path)
theorem cut_eqA (fr at_:Int):cutA fr at_=max 0 (fr-at_):=by
 unfold cutA;split<;>omega
theorem cut_eqB (tz at_ n:Int):cutB tz at_ n=min n (tz-at_):=by
 unfold cutB;split<;>omega
def posN (s:St3)(n x:Int):Int:=if s.rev=true then n-1-x else x
theorem part_has {s:St3}{n at_ fr tz e x:Int}(he:0<=s.edge)(hn:n<=1000000):hasL (partN s n (cutA fr at_) (cutB tz at_ n)) e x=(decide (s.edge=e/\0<=x/\x<n) &&decide (fr<=at_+posN s n x/\at_+posN s n x<tz)):=by
 rw[cut_eqA,cut_eqB];unfold partN posN;obtain⟨se,rv⟩:=s;dsimp only at*;rw[Bool.eq_iff_iff,Bool.and_eq_true,decide_eq_true_eq,decide_eq_true_eq];split
 ·rw[qcq]
  simp only[List.mem_singleton,exists_eq_left]
  cases rv
  ·rw[if_neg (by decide),if_neg (by decide),qa5]
   dsimp only;omega
  ·rw[if_pos rfl,if_pos rfl,qa5]
   dsimp only;omega
 ·rw[show hasL [] e x=false from rfl]
  cases rv
  ·rw[if_neg (by decide)]
   constructor
   ·intro h;cases h
   ·rintro⟨h1,h2⟩;omega
  ·rw[if_pos rfl]
   constructor
   ·intro h;cases h
   ·rintro⟨h1,h2⟩;omega
theorem sumN_app (a b:List Sn3):sumN (a++b)=sumN a+sumN b:=by
 induction a with
 |nil=>exact(Int.zero_add _).symm
 |cons s r ih=>
  show s.hi-s.lo+sumN (r++b)=s.hi-s.lo+sumN r+sumN b
  rw[ih];omega
theorem part_sum (s:St3)(n a b:Int):sumN (partN s n a b)=max 0 (b-a):=by
 unfold partN;obtain⟨se,rv⟩:=s;split
 ·cases rv
  ·show(b-a)+0=_
   omega
  ·show(n-a-(n-b))+0=_
   omega
 ·show(0:Int)=_
  omega
theorem ov_sum {t:Tp3}{fr tz:Int}{path:List St3}{at_:Int}(hft:fr<=tz)(hp: ∀s∈path,1<=lenAt t s):sumN (ovGo t fr tz path at_)=max 0 (min tz (at_+sumT t path)-max fr at_)/\0<=sumT t path:=by
 induction path generalizing at_ with
 |nil=>
  refine⟨?_,Int.le_refl _⟩;show(0:Int)=max 0 (min tz (at_+0)-max fr at_)
  omega
 |cons s r ih=>
  have h1:=hp s (List.mem_cons_self ..);have h2:=ih (at_:=at_+lenAt t s) fun u hu=>hp u (List.mem_cons_of_mem _ hu);rw[ovGo,sumN_app,part_sum,h2.1,cut_eqA,cut_eqB,show sumT t (s::r)=lenAt t s+sumT t r from rfl];have h3:=h2.2;generalize lenAt t s=n at*;generalize sumT t r=q at*;omega
theorem way_nums {t:Tp3}{path:List St3}(h:lenE t path=0)(ht:qaF t=true): ∀s∈path,0<=s.edge/\1<=lenAt t s/\lenAt t s<=1000000:=fun s hs=>by
 have h1:=(qd8 h).2.2.1 s hs;have h2:=qa2 ht h1;unfold edgeB at h1;simp only[Bool.and_eq_true,decide_eq_true_eq]at h1;exact⟨h1.1,h2⟩
end
section
structure Lc3 where
 route:Int
 train:Int
 no:Int
structure It3 where
 locks:List Lc3
 next:Int
def extL (t:Tp3)(route:Int):List Sn3:=
 match qaR t route with
 |none=>[]
 |some r=>(overE t r.path 0 (sumT t r.path)).1
def trainB (n:Int):Bool:=decide (0<=n) &&decide (n<=16777215)
def qfJ (l:List Lc3)(route:Int):Bool:=l.any fun k=>k.route==route
def metK (t:Tp3)(route train:Int)(k:Lc3):Bool:=!(k.train==train) &&qea (extL t route) (extL t k.route)
def metB (t:Tp3)(l:List Lc3)(route train:Int):Bool:=l.any (metK t route train)
def lastB (l:List Lc3)(n:Int):Bool:=
 match l.getLast? with
 |none=>true
 |some p=>decide (p.no<n)
def okK (t:Tp3)(next:Int)(ahead:List Lc3)(k:Lc3):Bool:=
 (qaR t k.route).isSome &&(trainB k.train &&(decide (1<=k.no) &&(decide (k.no<next) &&(lastB ahead k.no &&(!qfJ ahead k.route &&!metB t ahead k.route k.train)))))
def mayGo (t:Tp3)(next:Int):List Lc3->List Lc3->Bool
 |_,[]=>true
 |ahead,k::r=>okK t next ahead k &&mayGo t next (ahead++[k]) r
def mayB (t:Tp3)(x:It3):Bool:=decide (qax t=0) &&(decide (x.locks.length<=24) &&(decide (1<=x.next) &&(decide (x.next<=1099511627776) &&mayGo t x.next [] x.locks)))
def zeroI:It3:=⟨[],0⟩
def setE (t:Tp3)(x:It3)(route train:Int):It3×Int×Int:=
 if(mayB t x &&trainB train)=false then(zeroI,0,1)
 else if(qaR t route).isSome=false then(zeroI,0,4)
 else if qfJ x.locks route=true then(zeroI,0,5)
 else if metB t x.locks route train=true then(zeroI,0,160)
 else if x.locks.length=24\/x.next=1099511627776 then(zeroI,0,3)
 else(⟨x.locks++[⟨route,train,x.next⟩],x.next+1⟩,x.next,0)
def ofL (l:List Lc3)(train:Int):List Lc3:=l.filter fun k=>k.train==train
def eqK (a b:Lc3):Bool:=(a.route==b.route) &&((a.train==b.train) &&(a.no==b.no))
theorem eqK_iff (a b:Lc3):eqK a b=true↔a=b:=by
 obtain⟨x,y,z⟩:=a;obtain⟨u,v,w⟩:=b;unfold eqK;simp
def pairP (t:Tp3)(p q:Lc3):Prop:=p.no<q.no/\p.route≠q.route/\(p.train≠q.train->qea (extL t q.route) (extL t p.route)=false)
def oneP (t:Tp3)(next:Int)(k:Lc3):Prop:=(qaR t k.route).isSome=true/\trainB k.train=true/\1<=k.no/\k.no<next
theorem qdV {l:List Lc3}{route:Int}:qfJ l route=false↔ ∀p∈l,p.route≠route:=by
 unfold qfJ;rw[List.any_eq_false];simp
theorem met_false {t:Tp3}{l:List Lc3}{route train:Int}:metB t l route train=false↔ ∀p∈l,p.train≠train->qea (extL t route) (extL t p.route)=false:=by
 unfold metB;rw[List.any_eq_false];unfold metK;refine forall_congr' fun p=>forall_congr' fun _=>?_;by_cases h:p.train=train
 ·simp[h]
 ·simp[h]
theorem last_iff {l:List Lc3}{n:Int}(h:l.Pairwise fun p q=>p.no<q.no):lastB l n=true↔ ∀p∈l,p.no<n:=by
 unfold lastB
 cases hq:l.getLast? with
 |none=>
  rw[List.getLast?_eq_none_iff]at hq;subst hq;simp
 |some q=>
  obtain⟨m,rfl⟩:=List.getLast?_eq_some_iff.1 hq;rw[List.pairwise_append]at h;simp only[decide_eq_true_eq]
  constructor
  ·intro hn p hp
   rcases List.mem_append.1 hp with hp|hp
   ·exact Int.lt_trans (h.2.2 p hp q (by simp)) hn
   ·simp at hp
    subst hp;exact hn
  ·intro hn
   exact hn q (by simp)
theorem mayGo_iff {t:Tp3}{next:Int}{ahead l:List Lc3}(ha:ahead.Pairwise (pairP t)):mayGo t next ahead l=true↔(∀k∈l,oneP t next k)/\(ahead++l).Pairwise (pairP t):=by
 induction l generalizing ahead with
 |nil=>simp[mayGo,ha]
 |cons k r ih=>
  have hn:ahead.Pairwise fun p q=>p.no<q.no:=ha.imp fun h=>h.1;unfold mayGo okK;simp only[Bool.and_eq_true,Bool.not_eq_true',decide_eq_true_eq];rw[last_iff hn,qdV,met_false];have e:ahead++k::r=ahead++[k]++r:=by simp
  constructor
  ·rintro⟨⟨h1,h2,h3,h4,h5,h6,h7⟩,h8⟩
   have hk:(ahead++[k]).Pairwise (pairP t):=by
    rw[List.pairwise_append];refine⟨ha,List.pairwise_singleton _ _,fun p hp q hq=>?_⟩;simp at hq;subst hq;exact⟨h5 p hp,h6 p hp,h7 p hp⟩
   obtain⟨h9,h10⟩:=(ih hk).1 h8;refine⟨fun q hq=>?_,by rw[e];exact h10⟩
   rcases List.mem_cons.1 hq with rfl|hq
   ·exact⟨h1,h2,h3,h4⟩
   ·exact h9 q hq
  ·rintro⟨h1,h2⟩
   rw[e]at h2;have hk:=(List.pairwise_append.1 h2).1;have h3:=h1 k (List.mem_cons_self ..);rw[List.pairwise_append]at hk;have h4: ∀p∈ahead,pairP t p k:=fun p hp=>hk.2.2 p hp k (by simp);exact⟨⟨h3.1,h3.2.1,h3.2.2.1,h3.2.2.2,fun p hp=>(h4 p hp).1,fun p hp=>(h4 p hp).2.1,fun p hp=>(h4 p hp).2.2⟩,(ih (List.pairwise_append.1 h2).1).2 ⟨fun q hq=>h1 q (List.mem_cons_of_mem _ hq),h2⟩⟩
structure MayP (t:Tp3) (x:It3):Prop where
 check:qax t=0
 few:x.locks.length<=24
 lo:1<=x.next
 hi:x.next<=1099511627776
 one: ∀k∈x.locks,oneP t x.next k
 pair:x.locks.Pairwise (pairP t)
theorem may_iff {t:Tp3}{x:It3}:mayB t x=true↔MayP t x:=by
 unfold mayB;simp only[Bool.and_eq_true,decide_eq_true_eq];rw[mayGo_iff .nil,List.nil_append];exact⟨fun⟨h1,h2,h3,h4,h5,h6⟩=>⟨h1,h2,h3,h4,h5,h6⟩,fun h=>⟨h.check,h.few,h.lo,h.hi,h.one,h.pair⟩⟩
theorem set_may {t:Tp3}{x:It3}{route train:Int}(h:(setE t x route train).2.2=0):setE t x route train=(⟨x.locks++[⟨route,train,x.next⟩],x.next+1⟩,x.next,0)/\mayB t ⟨x.locks++[⟨route,train,x.next⟩],x.next+1⟩=true/\mayB t x=true/\qfJ x.locks route=false:=by
 unfold setE at h⊢;by_cases h1:(mayB t x &&trainB train)=false
 ·rw[if_pos h1]at h;cases h
 rw[if_neg h1]at h⊢;by_cases h2:(qaR t route).isSome=false
 ·rw[if_pos h2]at h;cases h
 rw[if_neg h2]at h⊢;by_cases h3:qfJ x.locks route=true
 ·rw[if_pos h3]at h;cases h
 rw[if_neg h3]at h⊢;by_cases h4:metB t x.locks route train=true
 ·rw[if_pos h4]at h;cases h
 rw[if_neg h4]at h⊢;by_cases h5:x.locks.length=24\/x.next=1099511627776
 ·rw[if_pos h5]at h;cases h
 rw[if_neg h5];simp only[Bool.not_eq_false,Bool.and_eq_true]at h1;have hm:=may_iff.1 h1.1;have h3':qfJ x.locks route=false:=by simpa using h3
 have h4':metB t x.locks route train=false:=by simpa using h4
 refine⟨rfl,may_iff.2 ⟨hm.check,?_,?_,?_,fun k hk=>?_,?_⟩,h1.1,h3'⟩
 ·have:=hm.few
  simp;omega
 ·have:=hm.lo
  dsimp only;omega
 ·have:=hm.hi
  dsimp only;omega
 ·rcases List.mem_append.1 hk with hk|hk
  ·have:=hm.one k hk
   exact⟨this.1,this.2.1,this.2.2.1,by have:=this.2.2.2;dsimp only;omega⟩
  ·simp at hk
   subst hk;exact⟨(by cases hq:(qaR t route).isSome with|true=>rfl|false=>exact absurd hq h2),h1.2,hm.lo,by dsimp only;omega⟩
 ·rw[List.pairwise_append]
  refine⟨hm.pair,List.pairwise_singleton _ _,fun p hp q hq=>?_⟩;simp at hq;subst hq;exact⟨(hm.one p hp).2.2.2,qdV.1 h3' p hp,met_false.1 h4' p hp⟩
structure Op4 where
 free:Bool
 route:Int
 train:Int
 no:Int
structure HasK (t:Tp3) (k:Lc3) (x:It3):Prop where
 may:mayB t x=true
 mem:k∈x.locks
theorem HasK.set {t:Tp3}{x:It3}{k:Lc3}(hk:HasK t k x){route train:Int}(h:(setE t x route train).2.2=0):HasK t k (setE t x route train).1/\k.no<(setE t x route train).2.1/\route≠k.route:=by
 have hs:=set_may h;rw[hs.1];exact⟨⟨hs.2.1,List.mem_append_left _ hk.mem⟩,((may_iff.1 hk.may).one k hk.mem).2.2.2,fun e=>qdV.1 hs.2.2.2 k hk.mem e.symm⟩
end
section
structure Sc3 where
 to_:Int
 timer:Int
structure Ma3 where
 ref:Int
 rev:Bool
 path:List St3
 sects:List Sc3
 gap:Int
def noMa:Ma3:=⟨0,false,[],[],0⟩
def qbf (t:Tp3)(m:Ma3):Ps3:=
 match balF t m.ref with
 |some b=>⟨b.edge,b.at_,m.rev⟩
 |none=>⟨0,0,m.rev⟩
def qa1 (t:Tp3)(m:Ma3):Int:=(onE t m.path (qbf t m)).1
def qbj:Int->List Sc3->Int
 |n,[]=>n
 |_,s::r=>qbj s.to_ r
def endM (m:Ma3):Int:=qbj 0 m.sects
def secsB:Int->List Sc3->Bool
 |_,[]=>true
 |p,s::r=>decide (p<s.to_) &&(decide (s.to_<=100000000) &&(decide (1<=s.timer) &&(decide (s.timer<=1000) &&secsB s.to_ r)))
def qcC (path:List St3)(s:St3):Bool:=
 match path with
 |[]=>false
 |x::_=>eqS x s
def mayM (t:Tp3)(m:Ma3):Bool:=
 decide (qax t=0) &&((balF t m.ref).isSome &&(decide (m.path.length<=24) &&(decide (1<=m.sects.length) &&(decide (m.sects.length<=8) &&(decide (0<=m.gap) &&(decide (m.gap<=100000000) &&
  (qcC m.path (stepP (qbf t m)) &&(!qa6 m.path &&(decide (lenE t m.path=0) &&(secsB 0 m.sects &&decide (endM m+m.gap<=sumT t m.path-qa1 t m)))))))))))
structure MayM (t:Tp3) (m:Ma3):Prop where
 check:qax t=0
 bal:(balF t m.ref).isSome=true
 few:m.path.length<=24
 one:1<=m.sects.length
 eight:m.sects.length<=8
 gap0:0<=m.gap
 gap1:m.gap<=100000000
 first:qcC m.path (stepP (qbf t m))=true
 once:qa6 m.path=false
 len:lenE t m.path=0
 secs:secsB 0 m.sects=true
 fits:endM m+m.gap<=sumT t m.path-qa1 t m
theorem qb4 {t:Tp3}{m:Ma3}:mayM t m=true↔MayM t m:=by
 unfold mayM;simp only[Bool.and_eq_true,decide_eq_true_eq,Bool.not_eq_true'];exact⟨fun⟨a,b,c,d,e,f,g,h,i,j,k,l⟩=>⟨a,b,c,d,e,f,g,h,i,j,k,l⟩,fun⟨a,b,c,d,e,f,g,h,i,j,k,l⟩=>⟨a,b,c,d,e,f,g,h,i,j,k,l⟩⟩
theorem qek {p:Int}{s:Sc3}{r:List Sc3}:secsB p (s::r)=true↔p<s.to_/\s.to_<=100000000/\1<=s.timer/\s.timer<=1000/\secsB s.to_ r=true:=by
 rw[secsB];simp only[Bool.and_eq_true,decide_eq_true_eq]
theorem secs_last {p:Int}{l:List Sc3}(h:secsB p l=true):p<=qbj p l:=by
 induction l generalizing p with
 |nil=>exact Int.le_refl _
 |cons s r ih=>
  have h1:=qek.1 h;have h2:=ih h1.2.2.2.2;show p<=qbj s.to_ r
  omega
theorem secs_few {p:Int}{l:List Sc3}(hp:p<=100000000)(h:secsB p l=true):qbj p l<=100000000:=by
 induction l generalizing p with
 |nil=>exact hp
 |cons s r ih=>
  have h1:=qek.1 h;exact ih h1.2.1 h1.2.2.2.2
/-! ## Where its group lies on its way -/
theorem behind_ok {t:Tp3}{m:Ma3}(hf:qcC m.path (stepP (qbf t m))=true):0<=qa1 t m:=by
 unfold qa1 onE;split
 ·rename_i hr
  split
  ·unfold qcC at hf
   cases hp:m.path with
   |nil=>rw[hp]at hf;cases hf
   |cons x r=>
    rw[hp]at hf;dsimp only at hf;rw[onGo,if_pos hf];have hx:=(qaI _ _).1 hf;have h1:=qbu.1 (qaQ.1 hr).2;have h2:lenAt t x=qau t (qbf t m).edge:=by rw[qb7,hx];rfl
    have h3:qaA t (qbf t m)<=qau t (qbf t m).edge:=by
     unfold qaA;split
     ·exact h1.2.2
     ·omega
    show 0<=0+lenAt t x-qaA t (qbf t m)
    omega
  ·exact Int.le_refl _
 ·exact Int.le_refl _
/-! ## Reach and Cut -/
def qdS (age:Int):Int->List Sc3->Int
 |n,[]=>n
 |n,s::r=>if age<s.timer then qdS age s.to_ r else n
def reachM (m:Ma3)(age:Int):Int:=qdS age 0 m.sects
end
section
def pathR (t:Tp3)(id:Int):List St3:=
 match qaR t id with
 |some r=>r.path
 |none=>[]
def wayC (t:Tp3)(l:List Lc3):List St3:=l.flatMap fun k=>pathR t k.route
def lastS (l:List St3):St3:=l.getLastD ⟨0,false⟩
def headS (l:List St3):St3:=l.headD ⟨0,false⟩
def metS (a b:List St3):Bool:=a.any fun x=>b.any fun y=>x.edge==y.edge
def okC (t:Tp3)(train:Int)(s:St3)(out:List Lc3)(k:Lc3):Bool:=
 (k.train==train &&(qaR t k.route).isSome) &&((if out.isEmpty=true then qbV (pathR t k.route) s else mayT t (lastS (wayC t out)) (headS (pathR t k.route)) &&!metS (wayC t out) (pathR t k.route)) &&!(out.any fun x=>eqK x k))
def qbZ (t:Tp3)(l:List Lc3)(train:Int)(s:St3):Nat->List Lc3->List Lc3
 |0,out=>out
 |k+1,out=>
  match l.find? (okC t train s out)with
  |none=>out
  |some x=>qbZ t l train s k (out++[x])
def qc3 (t:Tp3)(l:List Lc3)(train:Int)(s:St3):List Lc3:=if qax t=0 then qbZ t l train s 8 []else[]
structure StepC (t:Tp3) (l:List Lc3) (train:Int) (s:St3) (out:List Lc3) (x:Lc3):Prop where
 mem:x∈l
 train:x.train=train
 new:x∉out
 rt:(qaR t x.route).isSome=true
 first:out=[]->s∈pathR t x.route
 next:out≠[]->mayT t (lastS (wayC t out)) (headS (pathR t x.route))=true
 apart: ∀a∈wayC t out,∀b∈pathR t x.route,a.edge≠b.edge
inductive ChainP (t:Tp3) (l:List Lc3) (train:Int) (s:St3):List Lc3->Prop
 |nil:ChainP t l train s []
 |snoc {out:List Lc3} {x:Lc3} :ChainP t l train s out->StepC t l train s out x->ChainP t l train s (out++[x])
theorem any_eqK {out:List Lc3}{k:Lc3}:(out.any fun x=>eqK x k)=false↔k∉out:=by
 rw[List.any_eq_false]
 constructor
 ·intro h hk
  exact h k hk ((eqK_iff _ _).2 rfl)
 ·intro h x hx e
  exact h ((eqK_iff _ _).1 e▸hx)
theorem met_no {a b:List St3}:metS a b=false↔ ∀x∈a,∀y∈b,x.edge≠y.edge:=by
 unfold metS;rw[List.any_eq_false]
 constructor
 ·intro h x hx y hy e
  refine h x hx ?_;rw[List.any_eq_true];exact⟨y,hy,by simp[e]⟩
 ·intro h x hx e
  rw[List.any_eq_true]at e;obtain⟨y,hy,e⟩:=e;exact h x hx y hy (by simpa using e)
theorem okC_step {t:Tp3}{l:List Lc3}{train:Int}{s:St3}{out:List Lc3}{x:Lc3}(hx:x∈l)(h:okC t train s out x=true):StepC t l train s out x:=by
 unfold okC at h;simp only[Bool.and_eq_true,beq_iff_eq,Bool.not_eq_true']at h;obtain⟨⟨h1,h2⟩,h3,h4⟩:=h
 cases out with
 |nil=>
  exact⟨hx,h1,any_eqK.1 h4,h2,fun _=>(qc5 _ _).1 h3,fun h=>absurd rfl h,fun a ha=>by cases ha⟩
 |cons y r=>
  rw[if_neg (by simp),Bool.and_eq_true,Bool.not_eq_true']at h3;exact⟨hx,h1,any_eqK.1 h4,h2,(fun h=>by cases h),fun _=>h3.1,met_no.1 h3.2⟩
theorem chainGo_p {t:Tp3}{l:List Lc3}{train:Int}{s:St3}(k:Nat){out:List Lc3}(h:ChainP t l train s out):ChainP t l train s (qbZ t l train s k out)/\(qbZ t l train s k out).length<=out.length+k:=by
 induction k generalizing out with
 |zero=>exact⟨h,Nat.le_refl _⟩
 |succ k ih=>
  rw[qbZ]
  cases hq:l.find? (okC t train s out)with
  |none=>exact⟨h,by show out.length<=out.length+(k+1);omega⟩
  |some x=>
   have h1:=ih (h.snoc (okC_step (List.mem_of_find?_eq_some hq) (by simpa using List.find?_some hq)));rw[List.length_append,List.length_singleton]at h1;exact⟨h1.1,by have:=h1.2;dsimp only;omega⟩
theorem chain_p (t:Tp3)(l:List Lc3)(train:Int)(s:St3):ChainP t l train s (qc3 t l train s)/\(qc3 t l train s).length<=8:=by
 unfold qc3;split
 ·have:=chainGo_p 8 (ChainP.nil (t:=t) (l:=l) (train:=train) (s:=s))
  exact⟨this.1,by simpa using this.2⟩
 ·exact⟨.nil,by simp⟩
theorem ChainP.at {t:Tp3}{l:List Lc3}{train:Int}{s:St3}{c:List Lc3}(h:ChainP t l train s c){i:Nat}{x:Lc3}(hx:c[i]?=some x):StepC t l train s (c.take i) x:=by
 induction h with
 |nil=>cases hx
 | @snoc out y hp hs ih=>
  by_cases hi:i<out.length
  ·rw[List.getElem?_append_left hi]at hx
   rw[List.take_append_of_le_length (by omega)];exact ih hx
  ·by_cases he:i=out.length
   ·subst he
    rw[List.getElem?_append_right (Nat.le_refl _),Nat.sub_self]at hx;injection hx with hx
    subst hx;rw[List.take_append_of_le_length (Nat.le_refl _),List.take_of_length_le (Nat.le_refl _)];exact hs
   ·rw[List.getElem?_eq_none (by rw[List.length_append,List.length_singleton];omega)]at hx
    cases hx
theorem qcJ {t:Tp3}(hc:qax t=0){id:Int}(h:(qaR t id).isSome=true): ∃r,qaR t id=some r/\pathR t id=r.path/\qbv t r=0:=by
 cases hr:qaR t id with
 |none=>rw[hr]at h;cases h
 |some r=>
  refine⟨r,rfl,by unfold pathR;rw[hr],?_⟩;obtain⟨i,hi⟩:=List.getElem?_of_mem (List.mem_of_find?_eq_some hr);exact(route_find (qaD hc).2.2 hi).1
end
end Go.Proofs.YtahadmeilajdgaaGreatDoor
