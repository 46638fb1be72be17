/-
  Our own text, joined.
-/
import Derived.Test.YtahadmeilajdgaaGreatDoorRows
import Derived.WalkKit
import Derived.WalkSpells
import Derived.WalkLawsBesides
import Derived.Deep.Draws
import Derived.Laws.Rows
import Derived.Laws.Tables
import Derived.Maps.AppendAt
import Derived.OwnWalk
import Derived.Laws.AppendOwnNone
import Derived.Lib.Hide
import Derived.Deep.RegionHeld3
import Derived.Laws.ResultCell
import Derived.Laws.StructEq
import Derived.ChangeKeysEq
import Derived.BigFrame
import Derived.Deep.DeepCutAuto
import Derived.Great.BuildSlice
import Derived.BigQuiet
import Derived.IntWalk
namespace Go.Proofs.YtahadmeilajdgaaGreatDoor
set_option maxRecDepth 100000
set_option maxHeartbeats 1000000
section
open Go.RowKit
def Has (w:World)(g:Nat)(t:TypeId)(cs:Array Value):Prop:=w.heap[g]?=some (.cells cs t (0,0))
section
variable {w w':World} {g:Nat} {t:TypeId} {cs:Array Value}
theorem Has.lt (h:Has w g t cs):g<w.heap.size:=(Array.getElem?_eq_some_iff.1 h).1
theorem Has.cell (h:Has w g t cs)(i:Nat):w.cell? ⟨g,i,none⟩=cs[i]?:=cell_of_row w g i cs t (0,0) h
theorem Has.thaw (h:Has w g t cs)(i:Nat):w.frozen? ⟨g,i,none⟩=false:=by unfold Has at h;simp[World.frozen?,h]
theorem Has.made (w:World)(t:TypeId)(cs:Array Value):Has (w.alloc (.cells cs t)) w.heap.size t cs:=heap_alloc_new w _
theorem Has.draw (h:Has w g t cs):Has w.drew g t cs:=h
theorem Has.draws (h:Has w g t cs)(n:Nat):Has (w.drewN n) g t cs:=h
theorem Has.beside (h:Has w g t cs)(o:Obj):Has (w.alloc o) g t cs:=by
 unfold Has;rw[Below.heap_alloc w o g h.lt];exact h
theorem Has.stored (h:Has w g t cs)(i:Nat)(u:Value):Has (w.setCell ⟨g,i,none⟩ u) g t (cs.setIfInBounds i u):=by
 unfold Has at h⊢;simp[World.setCell,Array.getElem?_modify,h]
theorem Has.apart (h:Has w g t cs){p:Addr}(hp:g≠p.block)(u:Value):Has (w.setCell p u) g t cs:=by
 unfold Has;rw[Below.heap_setCell w p u g hp];exact h
theorem Has.under {B:Nat}(h:Has w g t cs)(hb:Below B w w')(hg:g<B):Has w' g t cs:=by
 unfold Has;rw[hb.block g hg];exact h
theorem Has.grow {row:Option Nat}(h:Has w g t cs)(hb:w.grownBy w' row)(hg:some g≠row):Has w' g t cs:=by
 unfold Has;rw[hb.block g h.lt hg];exact h
theorem Has.other {g':Nat}{t':TypeId}{cs':Array Value}(h:Has w g t cs)(h':Has w g' t' cs')(hne:t≠t'):g≠g':=by
 intro e;subst e;unfold Has at h h';rw[h]at h';simp only[Option.some.injEq,Obj.cells.injEq]at h';exact hne h'.2.1
end
/-! Only block g has turned, and what is new. -/
theorem qa3 (w:World)(row:Option Nat):w.grownBy w row:=⟨rfl,rfl,rfl,Nat.le_refl _,fun _ _ _=>rfl⟩
theorem qam {a b c:World}{row:Option Nat}(h:a.grownBy b row)(k:b.grownBy c row):a.grownBy c row:=
 ⟨k.os.trans h.os,k.tape.trans h.tape,k.output.trans h.output,Nat.le_trans h.size k.size,fun i hi hne=>(k.block i (Nat.lt_of_lt_of_le hi h.size) hne).trans (h.block i hi hne)⟩
theorem qfv {a b:World}{row:Option Nat}(h:a.grownBy b row):a.grownBy b.drew row:=⟨h.os,h.tape,h.output,h.size,h.block⟩
theorem qbV {a b:World}{row:Option Nat}(h:a.grownBy b row)(n:Nat):a.grownBy (b.drewN n) row:=⟨h.os,h.tape,h.output,h.size,h.block⟩
theorem qgr {a b:World}{row:Option Nat}(h:a.grownBy b row)(o:Obj):a.grownBy (b.alloc o) row:=
 qam h (World.grownBy_alloc b o row)
theorem qbW {a b:World}{g:Nat}(h:a.grownBy b (some g)){p:Addr}(hp:p.block=g)(u:Value):a.grownBy (b.setCell p u) (some g):=
 qam h ⟨rfl,rfl,rfl,by simp[World.setCell],fun i _ hne=>Below.heap_setCell b p u i (fun e=>hne (by rw[e,hp]))⟩
theorem qaK {a b:World}{B:Nat}(h:Below B a b)(hB:a.heap.size<=B)(row:Option Nat):a.grownBy b row:=
 ⟨h.os,h.tape,h.output,h.size,fun i hi _=>h.block i (Nat.lt_of_lt_of_le hi hB)⟩
theorem qaj {a b w:World}{B g:Nat}(h:Below B a b)(k:b.grownBy w (some g))(hB:B<=b.heap.size)(hg:B<=g):Below B a w:=
 h.grown k hB (fun x hx=>by cases hx;exact hg)
theorem qac {B:Nat}{a w:World}(h:Below B a w)(n:Nat):Below B a (w.drewN n):=⟨h.os,h.tape,h.output,h.size,h.block⟩
theorem qab {B g:Nat}{a w:World}(h:Below B a w)(hg:B<=g)(cs:Array Value):Below B a (w.setRow g cs):=
 ⟨h.os,h.tape,h.output,by simpa using h.size,fun k hk=>by rw[setRow_other w g k cs (by omega)];exact h.block k hk⟩
theorem qbm {w:World}{base:Nat}{e t:TypeId}{size n g:Nat}{v:Value}{xs:List Value}{cs:Array Value}(h:w.ownsRow base e size v n xs)(hg:Has w g t cs)(hne:e≠t):v.ownBlock≠some g:=by
 rcases h.2 with⟨rfl,_⟩|⟨g',cap,cur,rfl,_,hh,_⟩
 ·simp[Value.ownBlock]
 ·intro he
  have e':g'=g:=by simpa[Value.ownBlock]using he
  subst e';exact Has.other (t:=e) hh hg hne rfl
theorem qd1 {w w':World}{base:Nat}{e:TypeId}{size n g:Nat}{v:Value}{xs:List Value}(h:w.ownsRow base e size v n xs)(hg:w.grownBy w' (some g))(hne:v.ownBlock≠some g):w'.ownsRow base e size v n xs:=
 h.kept hg (.inr hne)
theorem qdh {w w':World}{base B:Nat}{e:TypeId}{size n:Nat}{v:Value}{xs:List Value}(h:w.ownsRow base e size v n xs)(hb:Below B w w')(hB:w.heap.size<=B):w'.ownsRow base e size v n xs:=by
 refine h.kept (row:=none) (qaK hb hB none) ?_
 cases v.ownBlock with
 |none=>exact .inl rfl
 |some k=>exact .inr (by simp)
theorem qdg {w:World}{base:Nat}{e:TypeId}{size n:Nat}{v:Value}{xs:List Value}(h:w.ownsRow base e size v n xs): ∃A c,v= .slice A n c:=by
 rcases h.2 with⟨rfl,rfl⟩|⟨g,cap,_,rfl,_⟩
 ·exact⟨none,0,rfl⟩
 ·exact⟨_,_,rfl⟩
theorem qai {a w w':World}{B:Nat}{row:Option Nat}{base:Nat}{e:TypeId}{size n:Nat}{v:Value}{xs:List Value}(h:Below B a w)(hB:B<=w.heap.size)(ho:w.ownsRow base e size v n xs)(hbase:B<=base)(hr:row=v.ownBlock)(hg:w.grownBy w' row):Below B a w':=
 h.grown hg hB (fun k hk=>Nat.le_trans hbase (ho.lt k (by rw[<-hr,hk])).1)
theorem qao {P:Program}{ops:Array Oper}{rest:List Oper}{o:Oper}{a:Act}{w:World}{Q:Exit->Act->World->Prop}(hgd:o.guard=none)(s x:Operand)(t:TypeId)
  (ho:o.op= .call {callee:= .builtin .append,args:=#[s,x],argTypes:=#[t,t]})
  (base:Nat) (e:TypeId) (z:Value) (size bytes:Nat) (ht:P.underlying t=some (.slice e)) (hinfo:(P.info? e).map (fun i=>(i.zero,i.size,i.bytes))=some (some z,size,bytes))
  (hzs:z.cells.size=size) (hsz:0<size)
  (A:Option Addr) (n c:Nat) (xs:List Value) (hs:a.eval s= .slice A n c) (hown:Hid (w.ownsRow base e size (.slice A n c) n xs))
  (ad:Addr) (m cc:Nat) (news:List Value) (hx:a.eval x= .slice (some ad) m cc) (hl:Hid (news.length=m*size)) (hnews:Hid (∀j u,news[j]?=some u->w.cell? (ad.add j)=some u)) (h1:Hid (∀u∈news,u.oneCell'=true))
  (hb:Hid (n+m<=maxLen/\(n+m)*bytes<=140737488355328/\base<=w.heap.size))
  (h: ∀A' c' w',Hid (w'.ownsRow base e size (.slice A' (n+m) c') (n+m) (xs++news))->Hid (w.grownBy w' (Value.ownBlock (.slice A n c)))->
   wpList P ops Q rest (a.put o.dst (.slice A' (n+m) c')) w'):wpList P ops Q (o::rest) a w:=by
 obtain⟨i,hi,hz,hsize,hby⟩:=info_parts hinfo;refine wpList_append_own_at w hgd s x t ho base e i z size bytes ht hi hz hsize hby hzs hsz (.slice A n c) n xs hs hown.out ad m cc news hx hl.out hnews.out h1.out hb.out.1 hb.out.2.1 hb.out.2.2 ?_;intro v' w' h2 h3 _ _;obtain⟨A',c',rfl⟩:=qdg h2;exact h A' c' w' h2 h3
/-! A slice value that holds the cells vs (an element takes size cells), wherever it lies. -/
def Sl (w:World)(size:Nat)(A:Option Addr)(m c:Nat)(vs:List Value):Prop:=
 vs.length=m*size/\(A=none->m=0/\c=0)/\ ∀ad,A=some ad-> ∀j u,vs[j]?=some u->w.cell? (ad.add j)=some u
theorem qfO (w:World)(size:Nat):Sl w size none 0 0 []:=⟨by simp,fun _=>⟨rfl,rfl⟩,fun _ h=>by cases h⟩
theorem qah {w:World}{a:Addr}{v:Value}(h:w.cell? a=some v):a.block<w.heap.size:=by
 rcases Nat.lt_or_ge a.block w.heap.size with h1|h1
 ·exact h1
 ·exfalso
  have hn:w.heap[a.block]?=none:=Array.getElem?_eq_none h1;simp[World.cell?,hn]at h
theorem Sl.under {w w':World}{size:Nat}{A:Option Addr}{m c:Nat}{vs:List Value}(h:Sl w size A m c vs)(hb:Below w.heap.size w w'):Sl w' size A m c vs:=
 ⟨h.1,h.2.1,fun ad ha j u hu=>by have h0:=h.2.2 ad ha j u hu;rw[hb.cell (qah h0)];exact h0⟩
theorem Sl.beside {w:World}{size:Nat}{A:Option Addr}{m c:Nat}{vs:List Value}(h:Sl w size A m c vs)(o:Obj):Sl (w.alloc o) size A m c vs:=
 h.under ((Below.refl _ _).alloc (Nat.le_refl _) o)
theorem Sl.draws {w:World}{size:Nat}{A:Option Addr}{m c:Nat}{vs:List Value}(h:Sl w size A m c vs)(n:Nat):Sl (w.drewN n) size A m c vs:=h
theorem Sl.at_ {w:World}{size:Nat}{A:Option Addr}{m c:Nat}{vs:List Value}(h:Sl w size A m c vs){j:Nat}{u:Value}(hj:vs[j]?=some u): ∃b off,A=some ⟨b,off,none⟩/\w.cell? ⟨b,off+j,none⟩=some u:=by
 cases A with
 |none=>
  have:=h.1;rw[(h.2.1 rfl).1]at this;have e:vs=[]:=List.eq_nil_of_length_eq_zero (by simpa using this);subst e;simp at hj
 |some a=>
  obtain⟨b,off,spot⟩:=a;have h0:=h.2.2 _ rfl j u hj;have hlt:0<vs.length:=by have:=(List.getElem?_eq_some_iff.1 hj).1;omega
  have h00:=h.2.2 _ rfl 0 _ (List.getElem?_eq_getElem hlt);have hspot:spot=none:=by simpa[Addr.add]using World.cell?_spot h00
  subst hspot;refine⟨b,off,rfl,?_⟩;rw[<-WideShapes.add_plain];exact h0
theorem Sl.of_own {w:World}{base:Nat}{e:TypeId}{size:Nat}{A:Option Addr}{m c:Nat}{vs:List Value}(h:w.ownsRow base e size (.slice A m c) m vs):Sl w size A m c vs:=by
 refine⟨h.1,fun ha=>?_,fun ad ha j u hu=>?_⟩
 ·subst ha
  rcases h.2 with⟨e1,e2⟩|⟨g,cap,cur,e1,_⟩
  ·injection e1 with _ _ e3
   exact⟨e2,e3⟩
  ·injection e1 with e1
   cases e1
 ·subst ha
  rcases h.2 with⟨e1,_⟩|⟨g,cap,cur,e1,_⟩
  ·injection e1 with e1
   cases e1
  ·injection e1 with e1
   injection e1 with e1
   subst e1;exact h.cells rfl j u hu
theorem qaG {P:Program}{ops:Array Oper}{rest:List Oper}{o:Oper}{a:Act}{w:World}{Q:Exit->Act->World->Prop}(hgd:o.guard=none)(s x:Operand)(t:TypeId)
  (ho:o.op= .call {callee:= .builtin .append,args:=#[s,x],argTypes:=#[t,t]})
  (base:Nat) (e:TypeId) (z:Value) (size bytes:Nat) (ht:P.underlying t=some (.slice e)) (hinfo:(P.info? e).map (fun i=>(i.zero,i.size,i.bytes))=some (some z,size,bytes))
  (hzs:z.cells.size=size) (hsz:0<size)
  (A:Option Addr) (n c:Nat) (xs:List Value) (hs:a.eval s= .slice A n c) (hown:Hid (w.ownsRow base e size (.slice A n c) n xs))
  (B:Option Addr) (m cc:Nat) (news:List Value) (hx:a.eval x= .slice B m cc) (hl:Hid (Sl w size B m cc news)) (h1:Hid (∀u∈news,u.oneCell'=true))
  (hb:Hid (n+m<=maxLen/\(n+m)*bytes<=140737488355328/\base<=w.heap.size))
  (h: ∀A' c' w',Hid (w'.ownsRow base e size (.slice A' (n+m) c') (n+m) (xs++news))->Hid (w.grownBy w' (Value.ownBlock (.slice A n c)))->
   wpList P ops Q rest (a.put o.dst (.slice A' (n+m) c')) w'):wpList P ops Q (o::rest) a w:=by
 cases B with
 |none=>
  obtain⟨rfl,rfl⟩:=hl.out.2.1 rfl;have e0:news=[]:=List.eq_nil_of_length_eq_zero (by simpa using hl.out.1);subst e0;obtain⟨i,hi,_⟩:=info_parts hinfo;exact wpList_append_own_none hgd s x t ho base e i size ht hi (.slice A n c) n xs hs hown.out hx (h A c w (show Hid _ by simpa using hown) (qa3 _ _))
 |some ad=>
  exact qao hgd s x t ho base e z size bytes ht hinfo hzs hsz A n c xs hs hown ad m cc news hx hl.out.1 (hl.out.2.2 ad rfl) h1 hb h
theorem step_push {P:Program}{ops:Array Oper}{o:Oper}{a:Act}{w:World}{K:Act->World->Prop}{Q:Exit->Act->World->Prop}{E:Prop}(hgd:o.guard=none)(s x:Operand)(t:TypeId)
  (ho:o.op= .call {callee:= .builtin .append,args:=#[s,x],argTypes:=#[t,t]})
  (base:Nat) (e:TypeId) (z:Value) (size bytes:Nat) (ht:P.underlying t=some (.slice e)) (hinfo:(P.info? e).map (fun i=>(i.zero,i.size,i.bytes))=some (some z,size,bytes))
  (hzs:z.cells.size=size) (hsz:0<size)
  (A:Option Addr) (n c:Nat) (xs:List Value) (hs:a.eval s= .slice A n c) (hown:Hid (w.ownsRow base e size (.slice A n c) n xs))
  (ad:Addr) (m cc:Nat) (news:List Value) (hx:a.eval x= .slice (some ad) m cc) (hl:Hid (news.length=m*size)) (hnews:Hid (∀j u,news[j]?=some u->w.cell? (ad.add j)=some u)) (h1:Hid (∀u∈news,u.oneCell'=true))
  (hb:Hid (n+m<=maxLen/\(n+m)*bytes<=140737488355328/\base<=w.heap.size))
  (h: ∀A' c' w',Hid (w'.ownsRow base e size (.slice A' (n+m) c') (n+m) (xs++news))->Hid (w.grownBy w' (Value.ownBlock (.slice A n c)))->
   K (a.put o.dst (.slice A' (n+m) c')) w'):if Region.wanted o (yielded ops a.tmps)=true then Oper.wp P o a w K Q else E:=by
 have hw:Region.wanted o (yielded ops a.tmps)=true:=by simp[Region.wanted,hgd]
 rw[if_pos hw];obtain⟨i,hi,hz,hsize,hby⟩:=info_parts hinfo;obtain⟨v',w',hr,h2,h3,_,_⟩:=run_append_own_at (P:=P) w base t o.type e i z size bytes ht hi hz hsize hby hzs hsz (.slice A n c) n xs hown.out ad m cc news hl.out hnews.out h1.out hb.out.1 hb.out.2.1 hb.out.2.2;obtain⟨A',c',rfl⟩:=qdg h2;unfold Oper.wp execOp;simp only[ho,resolve,invoke,builtin,Sem.run_bind,Sem.run_pure,Result.andThen_ok,List.map_toArray,List.map_cons,List.map_nil,hs,hx,hr];exact h A' c' w' h2 h3
end
section
open Go.RowKit
theorem qbz {W0:World}{g:Nat}{t:TypeId}{cs:Array Value}(hg:W0.heap.size=g):Has (W0.alloc (.cells cs t)) g t cs:=by
 subst hg;exact Has.made _ _ _
theorem qaa {w:World}{g:Nat}{t:TypeId}{old:Array Value}(h:Has w g t old)(cs:Array Value):Has (w.setRow g cs) g t cs:=by
 unfold Has at h⊢;simp[World.setRow,Array.getElem?_modify,h]
theorem qad {w:World}{g k:Nat}{t:TypeId}{old:Array Value}(h:Has w k t old)(hne:k≠g)(cs:Array Value):Has (w.setRow g cs) k t old:=by
 unfold Has at h⊢;rw[setRow_other w g k cs hne];exact h
theorem qan {w W:World}(h:Below w.heap.size w W)(o:Obj):Below w.heap.size w (W.alloc o):=h.alloc h.size o
theorem qaf {B:Nat}{a w:World}(h:Below B a w):Below B a w.drew:=⟨h.os,h.tape,h.output,h.size,h.block⟩
theorem Has.raw11 {w:World}{g:Nat}{t:TypeId}{cs:Array Value}(h:Has w g t cs):w.heap[g]?=some (.cells cs t (0,0)):=h
theorem Has.is11 {w:World}{g:Nat}{t:TypeId}{cs cs':Array Value}(h:Has w g t cs)(e:cs=cs'):Has w g t cs':=e▸h
theorem add_block11 (a:Addr)(j:Nat):(a.add j).block=a.block:=by unfold Addr.add;split<;>rfl
theorem qe4 {W:World}{s g n c:Nat}{A:Option Addr}{vs:List Value}(h:Sl W s A n c vs)(hne: ∀a,A=some a->a.block≠g)(cs:Array Value):Sl (W.setRow g cs) s A n c vs:=by
 refine⟨h.1,h.2.1,fun ad ha j u hu=>?_⟩;have h0:=h.2.2 ad ha j u hu;rw[World.cell?_of_block (w:=W) (by rw[add_block11];exact setRow_other W g ad.block cs (hne ad ha))];exact h0
theorem qbF {P:Program}{ops:Array Oper}{rest:List Oper}{a:Act}{w:World}{Q:Exit->Act->World->Prop}(d:Nat){op:Op}{ty:TypeId}{pos:String}{after:Array Edge}{guard:Option (Nat×Bool)}(h:wpList P ops Q (⟨some d,op,ty,pos,after,guard⟩::rest) a w):wpList P ops Q (⟨some d,op,ty,pos,after,guard⟩::rest) a w:=h
theorem qcF {P:Program}{fn:Func}{p u:Tmp}{ty:TypeId}(h:fn.results=#[.cell p ty,.tmp u])(tmps:Array Value)(w:World)(g:Nat)(t:TypeId)(cs:Array Value)(d:TypeDesc)
  (hp:tmps.getD p undef= .pointer (some ⟨g,0,none⟩)) (hg:w.heap[g]?=some (.cells cs t (0,0)))
  (hu:P.underlying ty=some d) (hd:(match d with| .struct _| .array _ _=>true|_=>false)=true) (hi:(P.info? ty).map (·.size)=some cs.size):
  (results fn tmps).run P w= .ok (.tuple #[.agg cs,tmps.getD u undef]) w:=by
 rw[results_cell_tmp h,hp];simp[asAddr,run_loadVar_row w g t ty cs (0,0) d hg hu hd hi]
theorem qaw {P:Program}{ops:Array Oper}{Q:Exit->Act->World->Prop}{md:Region.Mode}{S T:World->Prop}(hST: ∀w,T w->S w):
  ∀ {fuel:Nat} {listed:Array Bool} {a:Act} {w:World},wpAnyH P md ops Q T fuel listed a w->wpAnyH P md ops Q S fuel listed a w
 |0,_,_,_,h=>h
 |_+1,_,_,_,h=>⟨h.1,fun i hi=>wpOp_mono (fun _ _ h'=>⟨hST _ h'.1,qaw hST h'.2⟩) (h.2 i hi)⟩
theorem qcN {P:Program}{ops:Array Oper}{S:World->Prop}{o:Oper}{a:Act}(ty:TypeId)(x:Operand)(ho:o.op= .load ty x)(g:Nat)(hx:a.eval x= .pointer (some ⟨g,0,none⟩))(t:TypeId)(cs:Array Value)(d:TypeDesc)
  (hS: ∀w,S w->Has w g t cs) (hu:P.underlying ty=some d) (hd:(match d with| .struct _| .array _ _=>true|_=>false)=true) (hi:(P.info? ty).map (·.size)=some cs.size) (hw:Region.wanted o (yielded ops a.tmps)=true):YieldsIf P ops S o (.agg cs) a:=by
 refine .inl ⟨hw,fun w h=>?_⟩;unfold execOp;simp only[ho,hx,Instr.loadAt,Instr.sureAddr,Sem.run_bind,Sem.run_pure,Result.andThen_ok,run_loadVar_row w g t ty cs (0,0) d (hS w h) hu hd hi]
/-! Structs compared. -/
theorem qbw {P:Program}{ops:Array Oper}{S:World->Prop}{o:Oper}{a:Act}(op:BinOp)(t ty:TypeId)(x y:Operand)(ho:o.op= .binOp op t x y ty)(xs ys:Array Value)(hx:a.eval x= .agg xs)(hy:a.eval y= .agg ys)(hm:P.eqGuardType P.depth t=false)(v:Value)(hr: ∀w,(binOp op t (.agg xs) (.agg ys)).run P w= .ok v w)(hw:Region.wanted o (yielded ops a.tmps)=true):YieldsIf P ops S o v a:=by
 refine .inl ⟨hw,fun w _=>?_⟩;unfold execOp;simp only[ho,hx,hy,Sem.run_bind,run_eqGuard_agg w op t x y xs ys hm,Result.andThen_ok,hr,Sem.run_pure]
theorem qaC {P:Program}{ops:Array Oper}{rest:List Oper}{o:Oper}{a:Act}{w:World}{Q:Exit->Act->World->Prop}(ty:TypeId)(x:Operand)(ho:o.op= .load ty x)(hw:Region.wanted o (yielded ops a.tmps)=true)
  (g:Nat) (hx:a.eval x= .pointer (some ⟨g,0,none⟩)) (t:TypeId) (cs:Array Value) (fr:Nat×Nat) (d:TypeDesc) (hg:w.heap[g]?=some (.cells cs t fr))
  (hu:P.underlying ty=some d) (hd:(match d with| .struct _| .array _ _=>true|_=>false)=true) (hi:(P.info? ty).map (·.size)=some cs.size)
  (h:wpList P ops Q rest (a.put o.dst (.agg cs)) w):wpList P ops Q (o::rest) a w:=
 Go.BigFrame.wpList_want hw fun _ hK=>wp_load_row ty x ho g hx t cs fr d hg hu hd hi (hK _ _ h)
theorem qaL {P:Program}(w:World)(d:Nat)(xs ys:Array Value)(f:Field)(fs:List Field)(a b:Value)(hn:f.name≠ "_")(ha:(part f.type xs f.offset).run P w= .ok a w)(hb:(part f.type ys f.offset).run P w= .ok b w)(he:(Op.equalIn d f.type a b).run P w= .ok true w):
  (Op.eqFields d xs ys (f::fs)).run P w=(Op.eqFields d xs ys fs).run P w:=by
 simp[Op.eqFields,hn,ha,hb,he]
theorem qbN {P:Program}(w:World)(d:Nat)(xs ys:Array Value):(Op.eqFields d xs ys []).run P w= .ok true w:=by simp[Op.eqFields]
theorem qag {P:Program}(w:World)(t:TypeId)(xs:Array Value)(i:Nat)(v:Value)(hagg:(isAgg t).run P w= .ok false w)(hv:xs[i]?=some v):(part t xs i).run P w= .ok v w:=by
 simp[part,hagg,hv]
theorem qal (w:World)(g:Nat)(cs:Array Value):w.grownBy (w.setRow g cs) (some g):=
 ⟨rfl,rfl,rfl,by simp,fun k _ hk=>setRow_other w g k cs (fun e=>hk (by rw[e]))⟩
end
section
open Go.RowKit

theorem lyZ : (∀ (a : Act) (d : Option Nat) (v : Value), a.put d v = match d with | some t => { a with tmps := a.tmps.setIfInBounds t v } | none => a) ∧ (∀ (α : Type) (l : List α) (i : Nat) (x : α), l.toArray.setIfInBounds i x = (l.set i x).toArray) ∧ (∀ (α : Type) (a b : α) (l : List α), (a :: l).set 0 b = b :: l) ∧ (∀ (α : Type) (a b : α) (l : List α) (n : Nat), (a :: l).set (n + 1) b = a :: l.set n b) := by
  refine ⟨fun a d v => ?_, fun _ l i x => by simp, fun _ _ _ _ => rfl, fun _ _ _ _ _ => rfl⟩
  cases d <;> rfl
/-- A read that comes up first. -/
theorem tkZ {P : Program} {ops : Array Oper} {Q : Exit → Act → World → Prop} {md : Region.Mode} {S : World → Prop} {fuel : Nat} {listed : Array Bool} {a : Act} {w : World} {v : Value} {op : Op} {ty : TypeId} {ps : String} {af : Array Edge} {gd : Option (Nat × Bool)} (i d : Nat)
    (hi : ops[i]? = some ⟨some d, op, ty, ps, af, gd⟩ := by exact rfl) (hs : Region.noSelect ops = true := by kernel_rfl) (hf : Region.free md ops listed i = true := by kernel_rfl) (hr : (Region.ready md ops listed).contains i = true := by kernel_rfl)
    (hQ : ∀ c a w, Q (.panic c) (a.put (some d) v) w → Q (.panic c) a w := by exact fun _ _ _ h => h) (hw : Region.wanted ⟨some d, op, ty, ps, af, gd⟩ (yielded ops a.tmps) = true := by rfl)
    (hy : ∀ w_, S w_ → (execOp a.eval ⟨some d, op, ty, ps, af, gd⟩).run P w_ = .ok (.value v) w_ := by intro w_ hSw; (try dsimp only at hSw); go_simp <;> with_reducible rfl)
    (hS : S w := by assumption) (h : wpAnyH P md ops Q S fuel (listed.setIfInBounds i true) (a.put (some d) v) w) : wpAnyH P md ops Q S (fuel + 1) listed a w :=
  wpAnyH_take hi hs hf hr hQ (Or.inl ⟨hw, hy⟩) hS h
/-- An operation whose guard is false. -/
theorem skZ {P : Program} {ops : Array Oper} {Q : Exit → Act → World → Prop} {md : Region.Mode} {S : World → Prop} {fuel : Nat} {listed : Array Bool} {a : Act} {w : World} {op : Op} {ty : TypeId} {ps : String} {af : Array Edge} {gd : Option (Nat × Bool)} (i d : Nat)
    (hi : ops[i]? = some ⟨some d, op, ty, ps, af, gd⟩ := by exact rfl) (hs : Region.noSelect ops = true := by kernel_rfl) (hf : Region.free md ops listed i = true := by kernel_rfl) (hr : (Region.ready md ops listed).contains i = true := by kernel_rfl)
    (hQ : ∀ c a w, Q (.panic c) (a.put (some d) undef) w → Q (.panic c) a w := by exact fun _ _ _ h => h) (hw : Region.wanted ⟨some d, op, ty, ps, af, gd⟩ (yielded ops a.tmps) = false := by rfl)
    (hS : S w := by assumption) (h : wpAnyH P md ops Q S fuel (listed.setIfInBounds i true) (a.put (some d) undef) w) : wpAnyH P md ops Q S (fuel + 1) listed a w :=
  wpAnyH_take hi hs hf hr hQ (Or.inr ⟨hw, rfl⟩) hS h
def rowZ (P : Program) (t : TypeId) : Bool := match P.underlying t with | some (.struct _) => true | some (.array _ _) => true | _ => false
theorem rowZ_is {P : Program} {t : TypeId} (h : rowZ P t = true) : (∃ d, P.underlying t = some (.struct d)) ∨ ∃ n d, P.underlying t = some (.array n d) := by
  unfold rowZ at h
  split at h
  · next e => exact .inl ⟨_, e⟩
  · next e => exact .inr ⟨_, _, e⟩
  · cases h
/-- A whole struct loaded, in a drawn region. -/
theorem tlZ {P : Program} {ops : Array Oper} {Q : Exit → Act → World → Prop} {md : Region.Mode} {S : World → Prop} {fuel : Nat} {listed : Array Bool} {a : Act} {w : World} {x : Operand} {t ty : TypeId} {ps : String} {af : Array Edge} {gd : Option (Nat × Bool)} (i d g : Nat) (cs : Array Value) (hS2 : ∀ w, S w → Has w g t cs)
    (hi : ops[i]? = some ⟨some d, .load t x, ty, ps, af, gd⟩ := by exact rfl) (hs : Region.noSelect ops = true := by kernel_rfl) (hf : Region.free md ops listed i = true := by kernel_rfl) (hr : (Region.ready md ops listed).contains i = true := by kernel_rfl)
    (hQ : ∀ c a w, Q (.panic c) (a.put (some d) (.agg cs)) w → Q (.panic c) a w := by exact fun _ _ _ h => h) (hw : Region.wanted ⟨some d, .load t x, ty, ps, af, gd⟩ (yielded ops a.tmps) = true := by rfl)
    (hx : a.eval x = .pointer (some ⟨g, 0, none⟩) := by exact rfl) (hu : rowZ P t = true := by kernel_rfl) (hn : (P.info? t).map (·.size) = some cs.size := by kernel_rfl)
    (hS : S w := by assumption) (h : wpAnyH P md ops Q S fuel (listed.setIfInBounds i true) (a.put (some d) (.agg cs)) w) : wpAnyH P md ops Q S (fuel + 1) listed a w := by
  rcases rowZ_is hu with ⟨_, h1⟩ | ⟨_, _, h1⟩
  · exact wpAnyH_take hi hs hf hr hQ (qcN t x rfl g hx t cs _ hS2 h1 rfl hn hw) hS h
  · exact wpAnyH_take hi hs hf hr hQ (qcN t x rfl g hx t cs _ hS2 h1 rfl hn hw) hS h
/-- One operation is ready. -/
theorem rdZ {P : Program} {ops : Array Oper} {Q : Exit → Act → World → Prop} {md : Region.Mode} {S : World → Prop} {fuel : Nat} {listed : Array Bool} {a : Act} {w : World} (rs : List Nat) (h : AllReadyH P md ops Q S fuel listed a w rs) (hr : Region.ready md ops listed = rs := by kernel_rfl) (hn : rs ≠ [] := by simp) : wpAnyH P md ops Q S (fuel + 1) listed a w := wpAnyH_ready hr hn h
theorem acZ {P : Program} {ops : Array Oper} {Q : Exit → Act → World → Prop} {md : Region.Mode} {S : World → Prop} {fuel : Nat} {listed : Array Bool} {a : Act} {w : World} {i : Nat} {op : Op} {ty : TypeId} {ps : String} {af : Array Edge} {gd : Option (Nat × Bool)} {rs : List Nat} (d : Option Nat)
    (h : ∀ K : Act → World → Prop, Shut (∀ a w, S w → (S w → wpAnyH P md ops Q S fuel (listed.setIfInBounds i true) a w) → K a w) → if Region.wanted ⟨d, op, ty, ps, af, gd⟩ (yielded ops a.tmps) = true then Oper.wp P ⟨d, op, ty, ps, af, gd⟩ a w K Q else K (a.put d undef) w)
    (hs : AllReadyH P md ops Q S fuel listed a w rs) (ho : ops[i]? = some ⟨d, op, ty, ps, af, gd⟩ := by exact rfl) : AllReadyH P md ops Q S fuel listed a w (i :: rs) := AllReadyH.cons ho h hs
/-- The only one that is ready. -/
theorem aoZ {P : Program} {ops : Array Oper} {Q : Exit → Act → World → Prop} {md : Region.Mode} {S : World → Prop} {fuel : Nat} {listed : Array Bool} {a : Act} {w : World} {op : Op} {ty : TypeId} {ps : String} {af : Array Edge} {gd : Option (Nat × Bool)} (i : Nat) (d : Option Nat)
    (h : ∀ K : Act → World → Prop, Shut (∀ a w, S w → (S w → wpAnyH P md ops Q S fuel (listed.setIfInBounds i true) a w) → K a w) → if Region.wanted ⟨d, op, ty, ps, af, gd⟩ (yielded ops a.tmps) = true then Oper.wp P ⟨d, op, ty, ps, af, gd⟩ a w K Q else K (a.put d undef) w)
    (ho : ops[i]? = some ⟨d, op, ty, ps, af, gd⟩ := by exact rfl) (hr : Region.ready md ops listed = [i] := by kernel_rfl) : wpAnyH P md ops Q S (fuel + 1) listed a w := wpAnyH_ready hr (by simp) (AllReadyH.cons ho h AllReadyH.nil)
theorem dnZ {P : Program} {ops : Array Oper} {Q : Exit → Act → World → Prop} {md : Region.Mode} {S : World → Prop} {fuel : Nat} {listed : Array Bool} {a : Act} {w : World} (h : Q .normal a w) (hr : Region.ready md ops listed = [] := by kernel_rfl) : wpAnyH P md ops Q S fuel listed a w := wpAnyH_done hr h _
/-- A whole struct loaded. -/
theorem ldZ {P : Program} {ops : Array Oper} {rest : List Oper} {a : Act} {w : World} {Q : Exit → Act → World → Prop} {t ty : TypeId} {x : Operand} {ps : String} {af : Array Edge} {g : Nat} {cs : Array Value} (k : Nat) (H : Has w g t cs)
    (h : wpList P ops Q rest (a.put (some k) (.agg cs)) w) (hx : a.eval x = .pointer (some ⟨g, 0, none⟩) := by with_unfolding_all exact rfl) (hu : rowZ P t = true := by kernel_rfl) (hn : (P.info? t).map (·.size) = some cs.size := by kernel_rfl) : wpList P ops Q (⟨some k, .load t x, ty, ps, af, none⟩ :: rest) a w := by
  rcases rowZ_is hu with ⟨_, h1⟩ | ⟨_, _, h1⟩
  · exact wpList_load_row rfl t x rfl g hx t cs (0, 0) _ H h1 rfl hn h
  · exact wpList_load_row rfl t x rfl g hx t cs (0, 0) _ H h1 rfl hn h
/-- A whole struct stored. -/
theorem stZ {P : Program} {ops : Array Oper} {rest : List Oper} {a : Act} {w : World} {Q : Exit → Act → World → Prop} {t ty : TypeId} {x y : Operand} {ps : String} {af : Array Edge} {g : Nat} {old : Array Value} (cells : Array Value) (H : Has w g t old)
    (h : wpList P ops Q rest a (w.setRow g cells)) (hx : a.eval x = .pointer (some ⟨g, 0, none⟩) := by with_unfolding_all exact rfl) (hy : a.eval y = .agg cells := by with_unfolding_all exact rfl) (hi : (P.info? t).map (·.size) = some cells.size := by kernel_rfl) (hold : old.size = cells.size := by kernel_rfl) (h1 : cells.all (·.oneCell') = true := by kernel_rfl) : wpList P ops Q (⟨none, .store t x y, ty, ps, af, none⟩ :: rest) a w :=
  wpList_store_rowTo rfl t x y rfl rfl g cells hx hy t old H hi hold h1 h
/-- Results: a struct, a word beside it. -/
theorem rtZ {P : Program} {fn : Func} {R : Ending → World → Prop} {a : Act} {w w' : World} {p u : Tmp} {t : TypeId} {g : Nat} {cs : Array Value} (H : Has w' g t cs) (hR : R (.returned (.tuple #[.agg cs, a.tmps.getD u undef])) w) (h : fn.results = #[.cell p t, .tmp u] := by with_unfolding_all exact rfl) (hd : a.defers = [] := by with_unfolding_all exact rfl)
    (hp : a.tmps.getD p undef = .pointer (some ⟨g, 0, none⟩) := by with_unfolding_all exact rfl) (hu : rowZ P t = true := by kernel_rfl) (hi : (P.info? t).map (·.size) = some cs.size := by kernel_rfl) (e : w'.heap = w.heap := by with_unfolding_all exact rfl) : bodyPost P fn R .ret a w := by
  have H : Has w g t cs := by unfold Has at H ⊢; rw [← e]; exact H
  rcases rowZ_is hu with ⟨_, h1⟩ | ⟨_, _, h1⟩
  · exact bodyPost_ret (qcF h _ _ g t cs _ hp H h1 rfl hi) hd hR
  · exact bodyPost_ret (qcF h _ _ g t cs _ hp H h1 rfl hi) hd hR
/-- The result: a struct. -/
theorem roZ {P : Program} {fn : Func} {R : Ending → World → Prop} {a : Act} {w w' : World} {p : Tmp} {t : TypeId} {g : Nat} {cs : Array Value} (H : Has w' g t cs) (hR : R (.returned (.agg cs)) w) (h : fn.results = #[.cell p t] := by with_unfolding_all exact rfl) (hd : a.defers = [] := by with_unfolding_all exact rfl)
    (hp : a.tmps.getD p undef = .pointer (some ⟨g, 0, none⟩) := by with_unfolding_all exact rfl) (hu : rowZ P t = true := by kernel_rfl) (hi : (P.info? t).map (·.size) = some cs.size := by kernel_rfl) (e : w'.heap = w.heap := by with_unfolding_all exact rfl) : bodyPost P fn R .ret a w := by
  have H : Has w g t cs := by unfold Has at H ⊢; rw [← e]; exact H
  rcases rowZ_is hu with ⟨_, h1⟩ | ⟨_, _, h1⟩
  · exact bodyPost_ret (results_cell_row h _ _ g t cs (0, 0) _ hp H h1 rfl hi) hd hR
  · exact bodyPost_ret (results_cell_row h _ _ g t cs (0, 0) _ hp H h1 rfl hi) hd hR
theorem zq {p : Prop} (h : p) : Hid p := h
theorem bx1Z (w : World) (t : TypeId) (c : Array Value) : ∃ wa, w.alloc (.cells c t) = wa ∧ Below w.heap.size w wa ∧ Hid (w.alloc (.cells c t) = wa) ∧ Hid (Below w.heap.size w wa) ∧ Has wa w.heap.size t c :=
  ⟨_, rfl, (Below.refl _ _).alloc (Nat.le_refl _) _, zq rfl, zq ((Below.refl _ _).alloc (Nat.le_refl _) _), Has.made _ _ _⟩
theorem bx2Z (w : World) (t : TypeId) (c : Array Value) (t2 : TypeId) (c2 : Array Value) : ∃ wa, (w.alloc (.cells c t)).alloc (.cells c2 t2) = wa ∧ Below w.heap.size w wa ∧ Hid ((w.alloc (.cells c t)).alloc (.cells c2 t2) = wa) ∧ Hid (Below w.heap.size w wa) ∧ Has wa w.heap.size t c ∧ Has wa (w.heap.size + 1) t2 c2 :=
  ⟨_, rfl, ((Below.refl _ _).alloc (Nat.le_refl _) _).alloc (by simp) _, zq rfl, zq (((Below.refl _ _).alloc (Nat.le_refl _) _).alloc (by simp) _), (Has.made _ _ _).beside _, qbz (by simp)⟩
theorem bx3Z (w : World) (t : TypeId) (c : Array Value) (t2 : TypeId) (c2 : Array Value) (t3 : TypeId) (c3 : Array Value) : ∃ wa, ((w.alloc (.cells c t)).alloc (.cells c2 t2)).alloc (.cells c3 t3) = wa ∧ Below w.heap.size w wa ∧ Hid (((w.alloc (.cells c t)).alloc (.cells c2 t2)).alloc (.cells c3 t3) = wa) ∧ Hid (Below w.heap.size w wa) ∧ Has wa w.heap.size t c ∧ Has wa (w.heap.size + 1) t2 c2 ∧ Has wa (w.heap.size + 1 + 1) t3 c3 :=
  ⟨_, rfl, (((Below.refl _ _).alloc (Nat.le_refl _) _).alloc (by simp) _).alloc (by simp; omega) _, zq rfl, zq ((((Below.refl _ _).alloc (Nat.le_refl _) _).alloc (by simp) _).alloc (by simp; omega) _), ((Has.made _ _ _).beside _).beside _, (qbz (by simp)).beside _, qbz (by simp)⟩
theorem bA {w : World} {o : Obj} : Below w.heap.size w (w.alloc o) := (Below.refl _ _).alloc (Nat.le_refl _) _
theorem geZ {α : Sort _} (a : α) : ∃ x, a = x := ⟨_, rfl⟩
theorem glZ {α : Type} (l : List α) (i : Nat) (h : i < l.length) : ∃ x, l[i]? = some x := ⟨_, List.getElem?_eq_getElem h⟩
/-- A read that comes up first, by a fact of the world. -/
theorem tqZ {P : Program} {ops : Array Oper} {Q : Exit → Act → World → Prop} {md : Region.Mode} {S F : World → Prop} {fuel : Nat} {listed : Array Bool} {a : Act} {w : World} {v : Value} {op : Op} {ty : TypeId} {ps : String} {af : Array Edge} {gd : Option (Nat × Bool)} (i d : Nat) (q : ∀ w_, S w_ → F w_)
    (hi : ops[i]? = some ⟨some d, op, ty, ps, af, gd⟩ := by exact rfl) (hs : Region.noSelect ops = true := by kernel_rfl) (hf : Region.free md ops listed i = true := by kernel_rfl) (hr : (Region.ready md ops listed).contains i = true := by kernel_rfl)
    (hQ : ∀ c a w, Q (.panic c) (a.put (some d) v) w → Q (.panic c) a w := by exact fun _ _ _ h => h) (hw : Region.wanted ⟨some d, op, ty, ps, af, gd⟩ (yielded ops a.tmps) = true := by rfl)
    (hy : ∀ w_, F w_ → (execOp a.eval ⟨some d, op, ty, ps, af, gd⟩).run P w_ = .ok (.value v) w_ := by intro w_ q_; (try dsimp only at q_); go_simp <;> with_reducible rfl)
    (hS : S w := by assumption) (h : wpAnyH P md ops Q S fuel (listed.setIfInBounds i true) (a.put (some d) v) w) : wpAnyH P md ops Q S (fuel + 1) listed a w :=
  wpAnyH_take hi hs hf hr hQ (Or.inl ⟨hw, fun w_ h_ => hy w_ (q w_ h_)⟩) hS h
theorem Has.u {w W : World} {g : Nat} {t : TypeId} {cs : Array Value} (h : Has w g t cs) (hb : Below w.heap.size w W) : Has W g t cs := h.under hb h.lt
theorem bu {a w W : World} (h : Below a.heap.size a w) (hb : Below w.heap.size w W) : Below a.heap.size a W := h.trans (hb.mono h.size)
theorem tB {a w W : World} (h : Hid (Below a.heap.size a w)) (hb : Below w.heap.size w W) : Hid (Below a.heap.size a W) := bu h hb
theorem uH {w W : World} {g : Nat} {t : TypeId} {cs : Array Value} (h : Hid (Has w g t cs)) (hb : Below w.heap.size w W) : Hid (Has W g t cs) := Has.u h hb
theorem zH {w : World} {g : Nat} {t : TypeId} {cs : Array Value} (h : Has w g t cs) : Hid (∀ W, Below w.heap.size w W → Has W g t cs) := fun _ hb => h.u hb
theorem mr1 {P : Program} {ops : Array Oper} {Q : Exit → Act → World → Prop} {md : Region.Mode} {A : World → Prop} {fuel : Nat} {listed : Array Bool} {a : Act} {w : World} (X : World → Prop) (hS : A w ∧ X w) (h : A w ∧ X w → wpAnyH P md ops Q (fun W => A W ∧ X W) fuel listed a w) : wpAnyH P md ops Q A fuel listed a w := qaw (fun _ h => h.1) (h hS)
theorem mr2 {P : Program} {ops : Array Oper} {Q : Exit → Act → World → Prop} {md : Region.Mode} {A B : World → Prop} {fuel : Nat} {listed : Array Bool} {a : Act} {w : World} (X : World → Prop) (hS : A w ∧ B w ∧ X w) (h : A w ∧ B w ∧ X w → wpAnyH P md ops Q (fun W => A W ∧ B W ∧ X W) fuel listed a w) : wpAnyH P md ops Q (fun W => A W ∧ B W) fuel listed a w := qaw (fun _ h => ⟨h.1, h.2.1⟩) (h hS)
theorem mr3 {P : Program} {ops : Array Oper} {Q : Exit → Act → World → Prop} {md : Region.Mode} {A B C : World → Prop} {fuel : Nat} {listed : Array Bool} {a : Act} {w : World} (X : World → Prop) (hS : A w ∧ B w ∧ C w ∧ X w) (h : A w ∧ B w ∧ C w ∧ X w → wpAnyH P md ops Q (fun W => A W ∧ B W ∧ C W ∧ X W) fuel listed a w) : wpAnyH P md ops Q (fun W => A W ∧ B W ∧ C W) fuel listed a w := qaw (fun _ h => ⟨h.1, h.2.1, h.2.2.1⟩) (h hS)
theorem mr4 {P : Program} {ops : Array Oper} {Q : Exit → Act → World → Prop} {md : Region.Mode} {A B C D : World → Prop} {fuel : Nat} {listed : Array Bool} {a : Act} {w : World} (X : World → Prop) (hS : A w ∧ B w ∧ C w ∧ D w ∧ X w) (h : A w ∧ B w ∧ C w ∧ D w ∧ X w → wpAnyH P md ops Q (fun W => A W ∧ B W ∧ C W ∧ D W ∧ X W) fuel listed a w) : wpAnyH P md ops Q (fun W => A W ∧ B W ∧ C W ∧ D W) fuel listed a w := qaw (fun _ h => ⟨h.1, h.2.1, h.2.2.1, h.2.2.2.1⟩) (h hS)
end
section
structure St3 where
 edge:Int
 rev:Bool
structure Jt3 where
 a:Int×Int
 b:Int×Int
structure Bl3 where
 id:Int
 edge:Int
 at_:Int
structure Rt3 where
 id:Int
 path:List St3
 gap:Int
 timer:Int
structure Tp3 where
 edges:List Int
 joints:List Jt3
 bals:List Bl3
 routes:List Rt3
def eqS (a b:St3):Bool:=(a.edge==b.edge) &&(a.rev==b.rev)
theorem qaX (a b:St3):eqS a b=true↔a=b:=by
 obtain⟨x,y⟩:=a;obtain⟨z,u⟩:=b;unfold eqS;simp
def eqE (a b:Int×Int):Bool:=(a.1==b.1) &&(a.2==b.2)
theorem eqE_iff (a b:Int×Int):eqE a b=true↔a=b:=by
 obtain⟨x,y⟩:=a;obtain⟨z,u⟩:=b;unfold eqE;simp
theorem qco (a b:Int×Int):eqE a b=eqE b a:=by
 rw[Bool.eq_iff_iff,eqE_iff,eqE_iff];exact eq_comm
def inE (s:St3):Int×Int:=(s.edge,if s.rev=true then 1 else 0)
def outE (s:St3):Int×Int:=(s.edge,if s.rev=true then 0 else 1)
def joinJ (a b:Int×Int)(j:Jt3):Bool:=(eqE j.a a &&eqE j.b b)||(eqE j.a b &&eqE j.b a)
def joinB (l:List Jt3)(a b:Int×Int):Bool:=l.any (joinJ a b)
def edgeB (t:Tp3)(n:Int):Bool:=decide (0<=n) &&decide (n<t.edges.length)
def endB (t:Tp3)(x:Int×Int):Bool:=edgeB t x.1 &&(x.2==0||x.2==1)
def mayT (t:Tp3)(a b:St3):Bool:=joinB t.joints (outE a) (inE b)
def qbK (t:Tp3)(s:St3)(i:Nat):List St3:=(if mayT t s ⟨i,false⟩=true then[⟨i,false⟩]else[])++(if mayT t s ⟨i,true⟩=true then[⟨i,true⟩]else[])
def qau (t:Tp3)(s:St3):List St3:=if edgeB t s.edge=true then(List.range t.edges.length).flatMap (qbK t s)else[]
theorem qd9 {t:Tp3}{s b:St3}{i:Nat}:b∈qbK t s i↔b.edge=i/\mayT t s b=true:=by
 obtain⟨e,r⟩:=b;unfold qbK
 constructor
 ·intro h
  rcases List.mem_append.1 h with h|h<;>(split at h<;>simp at h)
  all_goals
   obtain⟨rfl,rfl⟩:=h;exact⟨rfl,by assumption⟩
 ·rintro⟨h1,h2⟩
  simp only at h1;subst h1
  cases r
  ·exact List.mem_append.2 (.inl (by rw[if_pos h2];simp))
  ·exact List.mem_append.2 (.inr (by rw[if_pos h2];simp))
theorem qbd {t:Tp3}{s b:St3}:b∈qau t s↔edgeB t s.edge=true/\edgeB t b.edge=true/\mayT t s b=true:=by
 unfold qau;by_cases h:edgeB t s.edge=true
 ·rw[if_pos h,List.mem_flatMap]
  constructor
  ·rintro⟨i,hi,hb⟩
   obtain⟨h1,h2⟩:=qd9.1 hb;refine⟨h,?_,h2⟩;unfold edgeB;rw[h1]
   simpa using hi
  ·rintro⟨_,h1,h2⟩
   unfold edgeB at h1;simp only[Bool.and_eq_true,decide_eq_true_eq]at h1;exact⟨b.edge.toNat,by simp;omega,qd9.2 ⟨by omega,h2⟩⟩
 ·rw[if_neg h]
  simp[h]
def qb1 (l:List St3)(s:St3):Bool:=l.any fun x=>eqS x s
theorem qc4 (l:List St3)(s:St3):qb1 l s=true↔s∈l:=by
 unfold qb1;rw[List.any_eq_true]
 constructor
 ·rintro⟨x,hx,e⟩
  rw[qaX]at e;exact e▸hx
 ·intro h
  exact⟨s,h,(qaX s s).2 rfl⟩
def wayB (t:Tp3):List St3->Bool
 |a::b::r=>mayT t a b &&wayB t (b::r)
 |_=>true
theorem way_at {t:Tp3}{path:List St3}:wayB t path=true↔ ∀i a b,path[i]?=some a->path[i+1]?=some b->mayT t a b=true:=by
 induction path with
 |nil=>simp[wayB]
 |cons x r ih=>
  cases r with
  |nil=>simp[wayB]
  |cons y r=>
   rw[wayB,Bool.and_eq_true,ih]
   constructor
   ·rintro⟨h1,h2⟩ i a b ha hb
    cases i with
    |zero=>
     simp at ha hb;subst ha hb;exact h1
    |succ j=>exact h2 j a b (by simpa using ha) (by simpa using hb)
   ·intro h
    exact⟨h 0 x y rfl rfl,fun i a b ha hb=>h (i+1) a b (by simpa using ha) (by simpa using hb)⟩
def lenAt (t:Tp3)(s:St3):Int:=t.edges.getD s.edge.toNat 0
def sumT (t:Tp3):List St3->Int
 |[]=>0
 |s::r=>lenAt t s+sumT t r
theorem qew (t:Tp3)(a b:List St3):sumT t (a++b)=sumT t a+sumT t b:=by
 induction a with
 |nil=>simp[sumT]
 |cons x r ih=>
  show lenAt t x+sumT t (r++b)=lenAt t x+sumT t r+sumT t b
  rw[ih,Int.add_assoc]
def qav (t:Tp3):Bool:=t.edges.all fun e=>decide (1<=e) &&decide (e<=1000000)
theorem qaT {t:Tp3}(h:qav t=true){s:St3}(hs:edgeB t s.edge=true):1<=lenAt t s/\lenAt t s<=1000000:=by
 unfold qav at h;rw[List.all_eq_true]at h;unfold edgeB at hs;simp only[Bool.and_eq_true,decide_eq_true_eq]at hs;have hl:s.edge.toNat<t.edges.length:=by omega
 have:=h _ (List.getElem_mem hl);unfold lenAt;rw[List.getD_eq_getElem?_getD,List.getElem?_eq_getElem hl]
 simpa using this
theorem qck {t:Tp3}(h:qav t=true){path:List St3}(hp: ∀s∈path,edgeB t s.edge=true):(path.length:Int)<=sumT t path/\sumT t path<=path.length*1000000:=by
 induction path with
 |nil=>simp[sumT]
 |cons x r ih=>
  have h1:=qaT h (hp x (List.mem_cons_self ..));have h2:=ih fun s hs=>hp s (List.mem_cons_of_mem _ hs);show(((x::r).length:Nat):Int)<=lenAt t x+sumT t r/\lenAt t x+sumT t r<=((x::r).length:Nat)*1000000
  rw[List.length_cons];omega
def lenE (t:Tp3)(path:List St3):Int:=
 if path.length=0\/40<path.length then 1 else if(path.all fun s=>edgeB t s.edge)=true then(if wayB t path=true then 0 else 141)else 1
def lenN (t:Tp3)(path:List St3):Int:=if lenE t path=0 then sumT t path else 0
def balF (t:Tp3)(id:Int):Option Bl3:=t.bals.find? fun b=>b.id==id
def qaS (t:Tp3)(id:Int):Option Rt3:=t.routes.find? fun r=>r.id==id
def qaF (f:Nat->Int):Nat->Int
 |0=>0
 |n+1=>if qaF f n=0 then f n else qaF f n
theorem qgf {f:Nat->Int}{n:Nat}:qaF f n=0↔ ∀i,i<n->f i=0:=by
 induction n with
 |zero=>simp[qaF]
 |succ n ih=>
  rw[qaF]
  constructor
  ·intro h i hi
   split at h
   ·rename_i h0
    by_cases e:i=n
    ·rw[e];exact h
    ·exact ih.1 h0 i (by omega)
   ·rename_i h0;exact absurd h h0
  ·intro h
   rw[if_pos (ih.2 fun i hi=>h i (by omega))];exact h n (by omega)
theorem qaQ {f:Nat->Int}{n i:Nat}(hi:i<n)(h:qaF f i=0)(hf:f i≠0):qaF f n=f i:=by
 induction n with
 |zero=>omega
 |succ n ih=>
  rw[qaF];by_cases e:i=n
  ·subst e
   rw[if_pos h]
  ·rw[ih (by omega),if_neg hf]
def qbl (t:Tp3)(i:Nat):Int:=
 match t.joints[i]? with
 |none=>0
 |some j=>if(endB t j.a &&endB t j.b &&!eqE j.a j.b)=true then(if joinB (t.joints.take i) j.a j.b=true then 5 else 0)else 1
def balE (t:Tp3)(i:Nat):Int:=
 match t.bals[i]? with
 |none=>0
 |some b=>if(decide (0<=b.id) &&decide (b.id<=16777214) &&edgeB t b.edge &&decide (0<=b.at_) &&decide (b.at_<=t.edges.getD b.edge.toNat 0))=true then(if((t.bals.take i).any fun x=>x.id==b.id)=true then 5 else 0)else 1
def qbs (path:List St3):Bool:=decide (¬(path.map (·.edge)).Nodup)
def qcr (t:Tp3)(s:St3):Bool:=t.bals.any fun b=>b.edge==s.edge
def qbD (t:Tp3)(r:Rt3):Int:=
 if r.id<1\/r.path.length=0\/8<r.path.length then 1
 else if((r.path.all fun s=>edgeB t s.edge) &&!qbs r.path)=true then
  (if lenE t r.path=0 then
   (if r.gap<0\/lenN t r.path-1<r.gap\/r.timer<1\/1000<r.timer then 1 else if(r.path.all (qcr t))=true then 0 else 4)
   else lenE t r.path)
 else 1
def qa1 (t:Tp3)(i:Nat):Int:=
 match t.routes[i]? with
 |none=>0
 |some r=>if qbD t r=0 then(if((t.routes.take i).any fun x=>x.id==r.id)=true then 5 else 0)else qbD t r
def longB (t:Tp3):Bool:=decide (40<t.edges.length)||(decide (80<t.joints.length)||(decide (80<t.bals.length)||decide (30<t.routes.length)))
def qaE (t:Tp3):Int:=
 if longB t=true then 2 else if qav t=true then
  (if qaF (qbl t) t.joints.length=0 then
   (if qaF (balE t) t.bals.length=0 then qaF (qa1 t) t.routes.length else qaF (balE t) t.bals.length)
   else qaF (qbl t) t.joints.length)
 else 1
def qaH (t:Tp3):Bool:=decide (t.edges.length<=100) &&(decide (t.joints.length<=100) &&(decide (t.bals.length<=100) &&(decide (t.routes.length<=100) &&t.routes.all fun r=>decide (r.path.length<=100))))
theorem qaD {t:Tp3}(h:qaE t=0):qav t=true/\longB t=false/\ ∀i,i<t.routes.length->qa1 t i=0:=by
 unfold qaE at h;by_cases h1:longB t=true
 ·rw[if_pos h1]at h;exact absurd h (by decide)
 ·rw[if_neg h1]at h
  by_cases h2:qav t=true
  ·rw[if_pos h2]at h
   by_cases h3:qaF (qbl t) t.joints.length=0
   ·rw[if_pos h3]at h
    by_cases h4:qaF (balE t) t.bals.length=0
    ·rw[if_pos h4]at h
     exact⟨h2,by simpa using h1,qgf.1 h⟩
    ·rw[if_neg h4]at h;exact absurd h h4
   ·rw[if_neg h3]at h;exact absurd h h3
  ·rw[if_neg h2]at h;exact absurd h (by decide)
theorem qd6 {t:Tp3}{r:Rt3}(h:qbD t r=0):1<=r.id/\1<=r.path.length/\r.path.length<=8/\(∀s∈r.path,edgeB t s.edge=true)/\(r.path.map (·.edge)).Nodup/\lenE t r.path=0/\0<=r.gap/\r.gap<lenN t r.path/\ ∀s∈r.path,qcr t s=true:=by
 unfold qbD at h;split at h
 ·exact absurd h (by decide)
 ·rename_i h1
  split at h
  ·rename_i h2
   simp only[Bool.and_eq_true,List.all_eq_true,qbs,Bool.not_eq_true',decide_eq_false_iff_not,Decidable.not_not]at h2;split at h
   ·rename_i h3
    split at h
    ·exact absurd h (by decide)
    ·rename_i h4
     split at h
     ·rename_i h5
      rw[List.all_eq_true]at h5;exact⟨by omega,by omega,by omega,h2.1,h2.2,h3,by omega,by omega,h5⟩
     ·exact absurd h (by decide)
   ·rename_i h3;exact absurd h h3
  ·exact absurd h (by decide)
theorem qgd {α:Type}{p:α->Bool}{l:List α}{i:Nat}{x:α}(hx:l[i]?=some x)(hp:p x=true)(hn:((l.take i).any p)=false):l.find? p=some x:=by
 induction l generalizing i with
 |nil=>simp at hx
 |cons y r ih=>
  cases i with
  |zero=>
   simp at hx;subst hx;exact List.find?_cons_of_pos hp
  |succ j=>
   rw[List.take_succ_cons,List.any_cons,Bool.or_eq_false_iff]at hn;rw[List.find?_cons_of_neg (by rw[hn.1];decide)];exact ih (by simpa using hx) hn.2
theorem route_find {t:Tp3}(h: ∀i,i<t.routes.length->qa1 t i=0){i:Nat}{r:Rt3}(hr:t.routes[i]?=some r):qbD t r=0/\qaS t r.id=some r:=by
 have h0:=h i (List.getElem?_eq_some_iff.1 hr).1;unfold qa1 at h0;rw[hr]at h0;simp only at h0;by_cases he:qbD t r=0
 ·rw[if_pos he]at h0
  refine⟨he,qgd hr (by simp) ?_⟩;by_cases ht:((t.routes.take i).any fun x=>x.id==r.id)=true
  ·rw[if_pos ht]at h0;exact absurd h0 (by decide)
  ·simpa using ht
 ·rw[if_neg he]at h0;exact absurd h0 he
end
section
structure Sn3 where
 edge:Int
 lo:Int
 hi:Int
def hasS (s:Sn3)(e x:Int):Bool:=decide (0<=s.edge) &&(decide (0<=s.lo) &&(decide (s.hi<=1000000) &&(decide (s.edge=e) &&(decide (s.lo<=x) &&decide (x<s.hi)))))
theorem qaq {s:Sn3}{e x:Int}:hasS s e x=true↔0<=s.edge/\0<=s.lo/\s.hi<=1000000/\s.edge=e/\s.lo<=x/\x<s.hi:=by
 unfold hasS;simp only[Bool.and_eq_true,decide_eq_true_eq]
def hasL (l:List Sn3)(e x:Int):Bool:=l.any fun s=>hasS s e x
theorem qbp {l:List Sn3}{e x:Int}:hasL l e x=true↔ ∃s∈l,hasS s e x=true:=List.any_eq_true
theorem qdr (a b:List Sn3)(e x:Int):hasL (a++b) e x=(hasL a e x||hasL b e x):=List.any_append
def eqN (a b:Sn3):Bool:=(a.edge==b.edge) &&((a.lo==b.lo) &&(a.hi==b.hi))
theorem eqN_iff (a b:Sn3):eqN a b=true↔a=b:=by
 obtain⟨x,y,z⟩:=a;obtain⟨u,v,w⟩:=b;unfold eqN;simp
def sameN:List Sn3->List Sn3->Bool
 |[],[]=>true
 |x::r,y::q=>eqN x y &&sameN r q
 |_,_=>false
theorem qd7 (a b:List Sn3):sameN a b=true↔a=b:=by
 induction a generalizing b with
 |nil=>cases b<;>simp[sameN]
 |cons x r ih=>
  cases b with
  |nil=>simp[sameN]
  |cons y q=>simp only[sameN,Bool.and_eq_true,eqN_iff,ih,List.cons.injEq]
structure Kp3 where
 one:Bool
 other:Bool
 common:Bool
def wantB (k:Kp3)(x y:Bool):Bool:=((k.one &&x) &&!y)||(((k.other &&y) &&!x)||((k.common &&x) &&y))
theorem qfW (k:Kp3):wantB k false false=false:=by
 obtain⟨a,b,c⟩:=k
 cases a<;>cases b<;>cases c<;>rfl
/-! Numbers that rise, with one more. -/
def insL (n:Int):List Int->List Int
 |[]=>[n]
 |x::r=>if x=n then x::r else if n<x then n::x::r else x::insL n r
theorem ins_mem {n y:Int}{l:List Int}:y∈insL n l↔y=n\/y∈l:=by
 induction l with
 |nil=>simp[insL]
 |cons x r ih=>
  unfold insL;split
  ·rename_i h;subst h;simp
  ·split
   ·simp
   ·rw[List.mem_cons,ih,List.mem_cons]
    constructor
    ·rintro(h|h|h)
     ·exact .inr (.inl h)
     ·exact .inl h
     ·exact .inr (.inr h)
    ·rintro(h|h|h)
     ·exact .inr (.inl h)
     ·exact .inl h
     ·exact .inr (.inr h)
theorem qei {n:Int}{l:List Int}(h:l.Pairwise (· < ·)):(insL n l).Pairwise (· < ·):=by
 induction l with
 |nil=>simp[insL]
 |cons x r ih=>
  rw[List.pairwise_cons]at h;unfold insL;split
  ·rw[List.pairwise_cons];exact h
  ·rename_i hne
   split
   ·rename_i hlt
    rw[List.pairwise_cons,List.pairwise_cons];refine⟨fun y hy=>?_,h⟩
    rcases List.mem_cons.1 hy with rfl|hy
    ·exact hlt
    ·exact Int.lt_trans hlt (h.1 y hy)
   ·rename_i hge
    rw[List.pairwise_cons];refine⟨fun y hy=>?_,ih h.2⟩
    rcases ins_mem.1 hy with rfl|hy
    ·omega
    ·exact h.1 y hy
theorem ins_len (n:Int)(l:List Int):(insL n l).length<=l.length+1:=by
 induction l with
 |nil=>simp[insL]
 |cons x r ih=>
  unfold insL;split
  ·simp
  ·split
   ·simp
   ·simp only[List.length_cons];omega
def qbQ (q:List Int)(l:List Sn3):List Int:=l.foldl (fun q s=>insL s.edge q) q
def endsF (q:List Int)(l:List Sn3):List Int:=l.foldl (fun q s=>insL s.hi (insL s.lo q)) q
theorem qeg (q:List Int)(s:Sn3)(l:List Sn3):qbQ q (s::l)=qbQ (insL s.edge q) l:=rfl
theorem qfc (q:List Int)(s:Sn3)(l:List Sn3):endsF q (s::l)=endsF (insL s.hi (insL s.lo q)) l:=rfl
theorem edges_sorted {q:List Int}(h:q.Pairwise (· < ·))(l:List Sn3):(qbQ q l).Pairwise (· < ·):=by
 induction l generalizing q with
 |nil=>exact h
 |cons s r ih=>rw[qeg];exact ih (qei h)
theorem qce {q:List Int}(h:q.Pairwise (· < ·))(l:List Sn3):(endsF q l).Pairwise (· < ·):=by
 induction l generalizing q with
 |nil=>exact h
 |cons s r ih=>rw[qfc];exact ih (qei (qei h))
theorem edges_mem {q:List Int}{l:List Sn3}{y:Int}:y∈qbQ q l↔y∈q\/ ∃s∈l,y=s.edge:=by
 induction l generalizing q with
 |nil=>simp[qbQ]
 |cons s r ih=>
  rw[qeg,ih,ins_mem];simp only[List.mem_cons,exists_eq_or_imp]
  constructor
  ·rintro((h|h)|h)
   ·exact .inr (.inl h)
   ·exact .inl h
   ·exact .inr (.inr h)
  ·rintro(h|h|h)
   ·exact .inl (.inr h)
   ·exact .inl (.inl h)
   ·exact .inr h
theorem qeW {q:List Int}{l:List Sn3}{y:Int}:y∈endsF q l↔y∈q\/ ∃s∈l,y=s.lo\/y=s.hi:=by
 induction l generalizing q with
 |nil=>simp[endsF]
 |cons s r ih=>
  rw[qfc,ih,ins_mem,ins_mem];simp only[List.mem_cons,exists_eq_or_imp]
  constructor
  ·rintro((h|h|h)|h)
   ·exact .inr (.inl (.inr h))
   ·exact .inr (.inl (.inl h))
   ·exact .inl h
   ·exact .inr (.inr h)
  ·rintro(h|(h|h)|h)
   ·exact .inl (.inr (.inr h))
   ·exact .inl (.inr (.inl h))
   ·exact .inl (.inl h)
   ·exact .inr h
theorem edges_len (q:List Int)(l:List Sn3):(qbQ q l).length<=q.length+l.length:=by
 induction l generalizing q with
 |nil=>exact Nat.le_refl _
 |cons s r ih=>
  rw[qeg,List.length_cons];have h1:=ih (insL s.edge q);have h2:=ins_len s.edge q;omega
theorem ends_len (q:List Int)(l:List Sn3):(endsF q l).length<=q.length+2*l.length:=by
 induction l generalizing q with
 |nil=>exact Nat.le_refl _
 |cons s r ih=>
  rw[qfc,List.length_cons];have h1:=ih (insL s.hi (insL s.lo q));have h2:=ins_len s.lo q;have h3:=ins_len s.hi (insL s.lo q);omega
/-! Of the pieces between neighbours, those that are asked for, glued where they touch. -/
def glue (e x y:Int):List Sn3->List Sn3
 |[]=>[⟨e,x,y⟩]
 |s::q=>if s.lo=y then⟨e,x,s.hi⟩::q else⟨e,x,y⟩::s::q
theorem qb2 (e x y:Int)(s:Sn3)(q:List Sn3):glue e x y (s::q)=if s.lo=y then⟨e,x,s.hi⟩::q else⟨e,x,y⟩::s::q:=rfl
def segs (e:Int)(f:Int->Bool):List Int->List Sn3
 |[]=>[]
 |[_]=>[]
 |x::y::r=>if f x=true then glue e x y (segs e f (y::r))else segs e f (y::r)
def setHi (l:List Sn3)(y:Int):List Sn3:=
 match l.getLast? with
 |none=>[]
 |some s=>l.dropLast++[⟨s.edge,s.lo,y⟩]
theorem setHi_snoc (l:List Sn3)(s:Sn3)(y:Int):setHi (l++[s]) y=l++[⟨s.edge,s.lo,y⟩]:=by
 unfold setHi;rw[List.getLast?_concat,List.dropLast_concat]
def fin15 (e:Int)(f:Int->Bool):List Sn3->Bool->List Int->List Sn3
 |out,_,[]=>out
 |out,_,[_]=>out
 |out,o,x::y::r=>if f x=true then(if o=true then fin15 e f (setHi out y) true (y::r)else fin15 e f (out++[⟨e,x,y⟩]) true (y::r))else fin15 e f out false (y::r)
theorem segs_lo {e:Int}{f:Int->Bool}{x:Int}{l:List Int}(h:(x::l).Pairwise (· < ·)): ∀s∈segs e f (x::l),x<=s.lo/\s.lo<s.hi/\s.edge=e:=by
 induction l generalizing x with
 |nil=>intro s hs;cases hs
 |cons y r ih=>
  rw[List.pairwise_cons]at h;have hxy:x<y:=h.1 y (List.mem_cons_self ..);have ih':=ih h.2;intro s hs;unfold segs at hs;split at hs
  ·cases hq:segs e f (y::r)with
   |nil=>
    rw[hq]at hs;simp only[glue,List.mem_singleton]at hs;subst hs;exact⟨Int.le_refl _,hxy,rfl⟩
   |cons u q=>
    rw[hq]at hs ih';rw[qb2]at hs;split at hs
    ·rename_i hu
     rcases List.mem_cons.1 hs with rfl|hs
     ·have h1:=ih' u (List.mem_cons_self ..)
      exact⟨Int.le_refl _,show x<u.hi by omega,rfl⟩
     ·have h1:=ih' s (List.mem_cons_of_mem _ hs)
      exact⟨by omega,h1.2⟩
    ·rcases List.mem_cons.1 hs with rfl|hs
     ·exact⟨Int.le_refl _,hxy,rfl⟩
     ·have h1:=ih' s hs
      exact⟨by omega,h1.2⟩
  ·have h1:=ih' s hs
   exact⟨by omega,h1.2⟩
theorem fin_segs {e:Int}{f:Int->Bool}{l:List Int}(h:l.Pairwise (· < ·))(out:List Sn3):
  fin15 e f out false l=out++segs e f l/\ ∀x0 x r,l=x::r->fin15 e f (out++[⟨e,x0,x⟩]) true l=out++glue e x0 x (segs e f l):=by
 induction l generalizing out with
 |nil=>exact⟨by simp[fin15,segs],fun _ _ _ h=>by cases h⟩
 |cons x t ih=>
  cases t with
  |nil=>
   refine⟨by simp[fin15,segs],fun x0 x' r e0=>?_⟩;injection e0 with e1 e2
   subst e1;simp[fin15,segs,glue]
  |cons y r=>
   have hp:=h;rw[List.pairwise_cons]at h;have hxy:x<y:=h.1 y (List.mem_cons_self ..);refine⟨?_,fun x0 x' r' e0=>?_⟩
   ·unfold fin15 segs
    by_cases hf:f x=true
    ·rw[if_pos hf,if_pos hf,if_neg (by decide)]
     exact(ih h.2 out).2 x y r rfl
    ·rw[if_neg hf,if_neg hf]
     exact(ih h.2 out).1
   ·injection e0 with e1 e2
    subst e1;unfold fin15 segs;by_cases hf:f x=true
    ·rw[if_pos hf,if_pos hf,if_pos rfl,setHi_snoc,(ih h.2 out).2 x0 y r rfl]
     congr 1
     cases segs e f (y::r)with
     |nil=>simp[glue]
     |cons u q=>
      rw[qb2,qb2];by_cases hu:u.lo=y
      ·rw[if_pos hu,if_pos hu,qb2,if_pos rfl]
      ·rw[if_neg hu,if_neg hu,qb2,if_pos rfl]
    ·rw[if_neg hf,if_neg hf,(ih h.2 _).1,List.append_assoc]
     congr 1
     have hl:=segs_lo (e:=e) (f:=f) h.2
     cases hq:segs e f (y::r)with
     |nil=>rfl
     |cons u q=>
      rw[hq]at hl;have:=(hl u (List.mem_cons_self ..)).1;rw[qb2,if_neg (by omega)]
      rfl
theorem segs_pair {e:Int}{f:Int->Bool}{l:List Int}(h:l.Pairwise (· < ·)):(segs e f l).Pairwise fun s t=>s.hi<t.lo:=by
 induction l with
 |nil=>exact .nil
 |cons x t ih=>
  cases t with
  |nil=>exact .nil
  |cons y r=>
   rw[List.pairwise_cons]at h;have ih':=ih h.2;unfold segs;split
   ·have hl:=segs_lo (e:=e) (f:=f) h.2
    cases hq:segs e f (y::r)with
    |nil=>simp[glue]
    |cons u q=>
     rw[hq]at ih' hl;rw[qb2];have ih2:=ih';rw[List.pairwise_cons]at ih';split
     ·rw[List.pairwise_cons]
      exact⟨fun t ht=>ih'.1 t ht,ih'.2⟩
     ·rename_i hu
      rw[List.pairwise_cons];refine⟨fun t ht=>?_,ih2⟩;have hu2:=hl u (List.mem_cons_self ..);show y<t.lo
      rcases List.mem_cons.1 ht with rfl|ht
      ·omega
      ·have:=ih'.1 t ht
       omega
   ·exact ih'
def qdz (f:Int->Bool)(p:Int):List Int->Prop
 |[]=>False
 |[_]=>False
 |x::y::r=>(f x=true/\x<=p/\p<y)\/qdz f p (y::r)
theorem qe3 {e:Int}{f:Int->Bool}{l:List Int}(h:l.Pairwise (· < ·))(p:Int):(∃s∈segs e f l,s.lo<=p/\p<s.hi)↔qdz f p l:=by
 induction l with
 |nil=>simp[segs,qdz]
 |cons x t ih=>
  cases t with
  |nil=>simp[segs,qdz]
  |cons y r=>
   rw[List.pairwise_cons]at h;have hxy:x<y:=h.1 y (List.mem_cons_self ..);have hl:=segs_lo (e:=e) (f:=f) h.2;unfold segs qdz;rw[<-ih h.2];split
   ·rename_i hf
    cases hq:segs e f (y::r)with
    |nil=>simp[glue,hf]
    |cons u q=>
     rw[hq]at hl;have hu:=hl u (List.mem_cons_self ..);rw[qb2];split
     ·rename_i huy
      simp only[List.mem_cons,exists_eq_or_imp]
      constructor
      ·rintro(⟨h1,h2⟩|h1)
       ·by_cases hpy:p<y
        ·exact .inl ⟨hf,h1,hpy⟩
        ·exact .inr (.inl ⟨by omega,h2⟩)
       ·exact .inr (.inr h1)
      ·rintro(⟨_,h1,h2⟩|⟨h1,h2⟩|h1)
       ·exact .inl ⟨h1,by omega⟩
       ·exact .inl ⟨by omega,h2⟩
       ·exact .inr h1
     ·simp only[List.mem_cons,exists_eq_or_imp]
      constructor
      ·rintro(⟨h1,h2⟩|h1)
       ·exact .inl ⟨hf,h1,h2⟩
       ·exact .inr h1
      ·rintro(⟨_,h1,h2⟩|h1)
       ·exact .inl ⟨h1,h2⟩
       ·exact .inr h1
   ·rename_i hf
    constructor
    ·exact fun h=> .inr h
    ·rintro(⟨h1,_⟩|h1)
     ·exact absurd h1 hf
     ·exact h1
theorem hasS_const {s:Sn3}{e x p:Int}(hxp:x<=p)(h1: ¬(x<s.lo/\s.lo<=p))(h2: ¬(x<s.hi/\s.hi<=p)):hasS s e x=hasS s e p:=by
 rw[Bool.eq_iff_iff,qaq,qaq];omega
theorem qe7 {α:Type}{l:List α}{f g:α->Bool}(h: ∀x∈l,f x=g x):l.any f=l.any g:=by
 induction l with
 |nil=>rfl
 |cons x r ih=>rw[List.any_cons,List.any_cons,h x (List.mem_cons_self ..),ih fun y hy=>h y (List.mem_cons_of_mem _ hy)]
theorem qds {l:List Sn3}{ends:List Int}(hc: ∀s∈l,s.lo∈ends/\s.hi∈ends){e x p:Int}(hxp:x<=p)(hn: ∀z∈ends,z<=x\/p<z):hasL l e x=hasL l e p:=
 qe7 fun s hs=>hasS_const hxp (fun h=>by have:=hn _ (hc s hs).1;omega) (fun h=>by have:=hn _ (hc s hs).2;omega)
theorem cover_iff {f:Int->Bool}{p:Int}{l:List Int}(h:l.Pairwise (· < ·)):qdz f p l↔ ∃x,x∈l/\f x=true/\x<=p/\(∀z∈l,z<=x\/p<z)/\ ∃z∈l,p<z:=by
 induction l with
 |nil=>simp[qdz]
 |cons x t ih=>
  cases t with
  |nil=>
   simp only[qdz,false_iff];rintro⟨a,h1,_,h2,_,z,h3,h4⟩;simp only[List.mem_singleton]at h1 h3;omega
  |cons y r=>
   have hp:=h;rw[List.pairwise_cons]at h;have hxy:x<y:=h.1 y (List.mem_cons_self ..);unfold qdz;rw[ih h.2]
   constructor
   ·rintro(⟨h1,h2,h3⟩|⟨a,h1,h2,h3,h4,z,h5,h6⟩)
    ·refine⟨x,List.mem_cons_self ..,h1,h2,fun z hz=>?_,y,List.mem_cons_of_mem _ (List.mem_cons_self ..),h3⟩
     rcases List.mem_cons.1 hz with rfl|hz
     ·exact .inl (Int.le_refl _)
     ·rcases List.mem_cons.1 hz with rfl|hz
      ·exact .inr h3
      ·have:=(List.pairwise_cons.1 h.2).1 z hz
       exact .inr (by omega)
    ·refine⟨a,List.mem_cons_of_mem _ h1,h2,h3,fun z hz=>?_,z,List.mem_cons_of_mem _ h5,h6⟩
     rcases List.mem_cons.1 hz with rfl|hz
     ·have:=h.1 a h1
      exact .inl (by omega)
     ·exact h4 z hz
   ·rintro⟨a,h1,h2,h3,h4,z,h5,h6⟩
    rcases List.mem_cons.1 h1 with rfl|h8
    ·refine .inl ⟨h2,h3,?_⟩
     rcases h4 y (List.mem_cons_of_mem _ (List.mem_cons_self ..))with h7|h7
     ·omega
     ·exact h7
    ·refine .inr ⟨a,h8,h2,h3,fun z hz=>h4 z (List.mem_cons_of_mem _ hz),?_⟩
     rcases List.mem_cons.1 h5 with h9|h9
     ·have:=h.1 a h8
      omega
     ·exact⟨z,h9,h6⟩
theorem below_max {l:List Int}{p:Int}(h: ∃z∈l,z<=p): ∃x∈l,x<=p/\ ∀z∈l,z<=x\/p<z:=by
 induction l with
 |nil=>obtain⟨z,hz,_⟩:=h;cases hz
 |cons y r ih=>
  by_cases h2: ∃z∈r,z<=p
  ·obtain⟨x,h3,h4,h5⟩:=ih h2
   by_cases h6:y<=p/\x<y
   ·refine⟨y,List.mem_cons_self ..,h6.1,fun z hz=>?_⟩
    rcases List.mem_cons.1 hz with rfl|hz
    ·exact .inl (Int.le_refl _)
    ·rcases h5 z hz with h7|h7
     ·exact .inl (by omega)
     ·exact .inr h7
   ·refine⟨x,List.mem_cons_of_mem _ h3,h4,fun z hz=>?_⟩
    rcases List.mem_cons.1 hz with rfl|hz
    ·omega
    ·exact h5 z hz
  ·obtain⟨z,hz,hzp⟩:=h
   rcases List.mem_cons.1 hz with rfl|hz
   ·refine⟨z,List.mem_cons_self ..,hzp,fun u hu=>?_⟩
    rcases List.mem_cons.1 hu with rfl|hu
    ·exact .inl (Int.le_refl _)
    ·exact .inr (Int.not_le.1 fun h=>h2 ⟨u,hu,h⟩)
   ·exact absurd ⟨z,hz,hzp⟩ h2
/-! The form. -/
def wantF (a b:List Sn3)(k:Kp3)(e x:Int):Bool:=wantB k (hasL a e x) (hasL b e x)
def finE (f:Int->Int->Bool)(ends:List Int):List Sn3->List Int->List Sn3
 |out,[]=>out
 |out,e::r=>finE f ends (fin15 e (f e) out false ends) r
def formL (a b:List Sn3)(k:Kp3):List Sn3:=finE (wantF a b k) (endsF [] (a++b)) [] (qbQ [] (a++b))
theorem finE_segs {f:Int->Int->Bool}{ends:List Int}(h:ends.Pairwise (· < ·))(out:List Sn3)(l:List Int):finE f ends out l=out++l.flatMap fun e=>segs e (f e) ends:=by
 induction l generalizing out with
 |nil=>simp[finE]
 |cons e r ih=>rw[finE,ih,(fin_segs h out).1,List.flatMap_cons,List.append_assoc]
theorem form_flat (a b:List Sn3)(k:Kp3):formL a b k=(qbQ [] (a++b)).flatMap fun e=>segs e (wantF a b k e) (endsF [] (a++b)):=by
 unfold formL;rw[finE_segs (qce .nil _),List.nil_append]
theorem qdy {a b:List Sn3}{k:Kp3}{e p:Int}:qdz (wantF a b k e) p (endsF [] (a++b))↔wantF a b k e p=true:=by
 have hs:=qce (q:=[]) .nil (a++b);have hca: ∀s∈a,s.lo∈endsF [] (a++b)/\s.hi∈endsF [] (a++b):=fun s h=>⟨qeW.2 (.inr ⟨s,List.mem_append_left _ h,.inl rfl⟩),qeW.2 (.inr ⟨s,List.mem_append_left _ h,.inr rfl⟩)⟩
 have hcb: ∀s∈b,s.lo∈endsF [] (a++b)/\s.hi∈endsF [] (a++b):=fun s h=>⟨qeW.2 (.inr ⟨s,List.mem_append_right _ h,.inl rfl⟩),qeW.2 (.inr ⟨s,List.mem_append_right _ h,.inr rfl⟩)⟩
 rw[cover_iff hs]
 constructor
 ·rintro⟨x,h1,h2,h3,h4,_⟩
  unfold wantF at h2⊢;rw[<-qds hca h3 h4,<-qds hcb h3 h4];exact h2
 ·intro h
  have hor:hasL a e p=true\/hasL b e p=true:=by
   unfold wantF at h
   cases h1:hasL a e p with
   |true=>exact .inl rfl
   |false=>
    cases h2:hasL b e p with
    |true=>exact .inr rfl
    |false=>rw[h1,h2,qfW]at h;cases h
  have hlh: ∃lo hi,lo∈endsF [] (a++b)/\hi∈endsF [] (a++b)/\lo<=p/\p<hi:=by
   rcases hor with h1|h1
   ·obtain⟨s,h2,h3⟩:=qbp.1 h1
    have h4:=qaq.1 h3;exact⟨s.lo,s.hi,(hca s h2).1,(hca s h2).2,h4.2.2.2.2.1,h4.2.2.2.2.2⟩
   ·obtain⟨s,h2,h3⟩:=qbp.1 h1
    have h4:=qaq.1 h3;exact⟨s.lo,s.hi,(hcb s h2).1,(hcb s h2).2,h4.2.2.2.2.1,h4.2.2.2.2.2⟩
  obtain⟨lo,hi,h1,h2,h3,h4⟩:=hlh;obtain⟨x,h5,h6,h7⟩:=below_max ⟨lo,h1,h3⟩;refine⟨x,h5,?_,h6,h7,hi,h2,h4⟩;unfold wantF at h⊢;rw[qds hca h6 h7,qds hcb h6 h7];exact h
theorem want_in {a b:List Sn3}{k:Kp3}{e p:Int}(h:wantF a b k e p=true):0<=e/\0<=p/\p<1000000/\e∈qbQ [] (a++b):=by
 have hor: ∃s∈a++b,hasS s e p=true:=by
  unfold wantF at h
  cases h1:hasL a e p with
  |true=>obtain⟨s,h2,h3⟩:=qbp.1 h1;exact⟨s,List.mem_append_left _ h2,h3⟩
  |false=>
   cases h2:hasL b e p with
   |true=>obtain⟨s,h2,h3⟩:=qbp.1 h2;exact⟨s,List.mem_append_right _ h2,h3⟩
   |false=>rw[h1,h2,qfW]at h;cases h
 obtain⟨s,h1,h2⟩:=hor;have h3:=qaq.1 h2;exact⟨by omega,by omega,by omega,edges_mem.2 (.inr ⟨s,h1,h3.2.2.2.1.symm⟩)⟩
def okN (s:Sn3):Prop:=0<=s.edge/\0<=s.lo/\s.lo<s.hi/\s.hi<=1000000
def aheadN (s t:Sn3):Prop:=s.edge<t.edge\/(s.edge=t.edge/\s.hi<t.lo)
def normP (l:List Sn3):Prop:=(∀s∈l,okN s)/\l.Pairwise aheadN
theorem qdL {a b:List Sn3}{k:Kp3}{e:Int}{s:Sn3}(h:s∈segs e (wantF a b k e) (endsF [] (a++b))):okN s/\s.edge=e:=by
 have hs:=qce (q:=[]) .nil (a++b);have hlo:s.lo<s.hi/\s.edge=e:=by
  cases hq:endsF [] (a++b)with
  |nil=>rw[hq]at h;cases h
  |cons x r=>
   rw[hq]at h hs;exact(segs_lo hs s h).2
 have h1:=want_in (qdy.1 ((qe3 (e:=e) hs s.lo).1 ⟨s,h,Int.le_refl _,hlo.1⟩));have h2:=want_in (qdy.1 ((qe3 (e:=e) hs (s.hi-1)).1 ⟨s,h,by omega,by omega⟩));exact⟨⟨by rw[hlo.2];exact h1.1,h1.2.1,hlo.1,by omega⟩,hlo.2⟩
theorem qcz (a b:List Sn3)(k:Kp3):normP (formL a b k):=by
 rw[form_flat];refine⟨fun s hs=>?_,?_⟩
 ·obtain⟨e,_,h⟩:=List.mem_flatMap.1 hs
  exact(qdL h).1
 ·have hp:=edges_sorted (q:=[]) .nil (a++b)
  generalize qbQ [] (a++b)=es at hp
  induction es with
  |nil=>exact .nil
  |cons e r ih=>
   rw[List.pairwise_cons]at hp;rw[List.flatMap_cons,List.pairwise_append];refine⟨?_,ih hp.2,fun s hs t ht=>?_⟩
   ·refine(segs_pair (qce .nil _)).imp_of_mem fun hs ht h=>?_
    exact .inr ⟨(qdL hs).2.trans (qdL ht).2.symm,h⟩
   ·obtain⟨e2,h1,h2⟩:=List.mem_flatMap.1 ht
    refine .inl ?_;rw[(qdL hs).2,(qdL h2).2];exact hp.1 e2 h1
theorem qdq (a b:List Sn3)(k:Kp3)(e x:Int):hasL (formL a b k) e x=wantB k (hasL a e x) (hasL b e x):=by
 show _=wantF a b k e x
 have hs:=qce (q:=[]) .nil (a++b);rw[Bool.eq_iff_iff,form_flat,qbp,<-qdy,<-qe3 (e:=e) hs]
 constructor
 ·rintro⟨s,h1,h2⟩
  obtain⟨e2,h3,h4⟩:=List.mem_flatMap.1 h1;have h5:=qaq.1 h2;obtain rfl:e2=e:=by rw[<-(qdL h4).2];exact h5.2.2.2.1
  exact⟨s,h4,h5.2.2.2.2⟩
 ·rintro⟨s,h1,h2,h3⟩
  have h4:=qdL h1;have h5:=(want_in (qdy.1 ((qe3 (e:=e) hs x).1 ⟨s,h1,h2,h3⟩))).2.2.2;exact⟨s,List.mem_flatMap.2 ⟨e,h5,h1⟩,qaq.2 ⟨h4.1.1,h4.1.2.1,h4.1.2.2.2,h4.2,h2,h3⟩⟩
theorem norm_tail {s:Sn3}{l:List Sn3}(h:normP (s::l)):normP l:=⟨fun t ht=>h.1 t (List.mem_cons_of_mem _ ht),(List.pairwise_cons.1 h.2).2⟩
theorem qbf (s:Sn3)(l:List Sn3)(e x:Int):hasL (s::l) e x=(hasS s e x||hasL l e x):=List.any_cons
theorem qgq {s:Sn3}(h:okN s){x:Int}(h1:s.lo<=x)(h2:x<s.hi):hasS s s.edge x=true:=qaq.2 ⟨h.1,h.2.1,h.2.2.2,rfl,h1,h2⟩
theorem qcZ {s:Sn3}{l:List Sn3}(h:normP (s::l)){e x:Int}(hx:hasL l e x=true):s.edge<e\/(s.edge=e/\s.hi<x):=by
 obtain⟨t,h1,h2⟩:=qbp.1 hx;have h3:=qaq.1 h2
 rcases(List.pairwise_cons.1 h.2).1 t h1 with h4|⟨h4,h5⟩
 ·exact .inl (by omega)
 ·exact .inr ⟨by omega,by omega⟩
theorem qgp {s:Sn3}{l:List Sn3}(h:normP (s::l)){e x:Int}(hx:hasL (s::l) e x=true):s.edge<e\/(s.edge=e/\s.lo<=x):=by
 rw[qbf,Bool.or_eq_true]at hx;have hs:=h.1 s (List.mem_cons_self ..)
 rcases hx with hx|hx
 ·have h3:=qaq.1 hx
  exact .inr ⟨h3.2.2.2.1,h3.2.2.2.2.1⟩
 ·rcases qcZ h hx with h4|⟨h4,h5⟩
  ·exact .inl h4
  ·exact .inr ⟨h4,by have:=hs.2.2.1;omega⟩
theorem norm_hi {s t:Sn3}{l m:List Sn3}(hl:normP (s::l))(hm:normP (t::m))(he:s.edge=t.edge)(hlo:s.lo=t.lo)(h: ∀e x,hasL (s::l) e x=true->hasL (t::m) e x=true):s.hi<=t.hi:=by
 refine Int.not_lt.1 fun hlt=>?_;have hs:=hl.1 s (List.mem_cons_self ..);have ht:=hm.1 t (List.mem_cons_self ..);have h1:hasL (s::l) s.edge t.hi=true:=by
  rw[qbf,qgq hs (by have:=ht.2.2.1;omega) hlt]
  rfl
 have h2:=h _ _ h1;rw[qbf,Bool.or_eq_true]at h2
 rcases h2 with h2|h2
 ·have:=qaq.1 h2
  omega
 ·rcases qcZ hm h2 with h3|⟨_,h3⟩<;>omega
theorem qb4 {l m:List Sn3}(hl:normP l)(hm:normP m)(h: ∀e x,hasL l e x=hasL m e x):l=m:=by
 induction l generalizing m with
 |nil=>
  cases m with
  |nil=>rfl
  |cons t m=>
   have ht:=hm.1 t (List.mem_cons_self ..);have:=h t.edge t.lo;rw[qbf,qgq ht (Int.le_refl _) ht.2.2.1]at this
   cases this
 |cons s l ih=>
  have hs:=hl.1 s (List.mem_cons_self ..)
  cases m with
  |nil=>
   have:=h s.edge s.lo;rw[qbf,qgq hs (Int.le_refl _) hs.2.2.1]at this
   cases this
  |cons t m=>
   have ht:=hm.1 t (List.mem_cons_self ..);have h1:hasL (s::l) s.edge s.lo=true:=by rw[qbf,qgq hs (Int.le_refl _) hs.2.2.1];rfl
   have h2:hasL (t::m) t.edge t.lo=true:=by rw[qbf,qgq ht (Int.le_refl _) ht.2.2.1];rfl
   have h3:=qgp hm ((h _ _).symm.trans h1);have h4:=qgp hl ((h _ _).trans h2);have he:s.edge=t.edge:=by omega
   have hlo:s.lo=t.lo:=by omega
   have hhi:s.hi=t.hi:=Int.le_antisymm (norm_hi hl hm he hlo fun e x h5=>(h e x).symm.trans h5) (norm_hi hm hl he.symm hlo.symm fun e x h5=>(h e x).trans h5);have hst:s=t:=by
    obtain⟨x,y,z⟩:=s;obtain⟨u,v,w⟩:=t;simp only at he hlo hhi;rw[he,hlo,hhi]
   subst hst
   congr 1
   refine ih (norm_tail hl) (norm_tail hm) fun e x=>?_;have h5:=h e x;rw[qbf,qbf]at h5
   cases hq:hasS s e x with
   |false=>rw[hq,Bool.false_or,Bool.false_or]at h5;exact h5
   |true=>
    have h6:=qaq.1 hq;have e1:hasL l e x=false:=by
     cases h7:hasL l e x with
     |false=>rfl
     |true=>rcases qcZ hl h7 with h8|⟨_,h8⟩<;>omega
    have e2:hasL m e x=false:=by
     cases h7:hasL m e x with
     |false=>rfl
     |true=>rcases qcZ hm h7 with h8|⟨_,h8⟩<;>omega
    rw[e1,e2]
theorem form_uniq {l a b:List Sn3}{k:Kp3}(hl:normP l)(h: ∀e x,hasL l e x=wantB k (hasL a e x) (hasL b e x)):l=formL a b k:=
 qb4 hl (qcz a b k) fun e x=>by rw[h,qdq]
/-! Few spans. -/
theorem nodup_len {l c:List (Int×Int)}(hn:l.Nodup)(hs: ∀x∈l,x∈c):l.length<=c.length:=by
 induction l generalizing c with
 |nil=>exact Nat.zero_le _
 |cons x r ih=>
  rw[List.nodup_cons]at hn;have hx:=hs x (List.mem_cons_self ..);have h1:=ih (c:=c.erase x) hn.2 fun y hy=>(List.mem_erase_of_ne (fun e=>hn.1 (by rw[<-e];exact hy))).2 (hs y (List.mem_cons_of_mem _ hy));have h2:=List.length_erase_of_mem hx;have h3:=List.length_pos_of_mem hx;rw[List.length_cons];omega
theorem hasL_turn {a:List Sn3}{e p:Int}(h:hasL a e p≠hasL a e (p-1)): ∃s∈a,s.edge=e/\(s.lo=p\/s.hi=p):=by
 have h1: ∃s∈a,hasS s e p≠hasS s e (p-1):=by
  refine Classical.byContradiction fun hc=>h (qe7 fun s hs=>?_);exact Classical.byContradiction fun h2=>hc ⟨s,hs,h2⟩
 obtain⟨s,hs,h2⟩:=h1;refine⟨s,hs,?_⟩;have h3: ¬(hasS s e p=true↔hasS s e (p-1)=true):=fun h3=>h2 (Bool.eq_iff_iff.2 h3);rw[qaq,qaq]at h3;omega
theorem norm_len {l a b:List Sn3}{k:Kp3}(hl:normP l)(h: ∀e x,hasL l e x=wantB k (hasL a e x) (hasL b e x)):l.length<=2*(a.length+b.length):=by
 have h0:(((a++b).flatMap fun s=>[(s.edge,s.lo),(s.edge,s.hi)]):List (Int×Int)).length=2*(a.length+b.length):=by
  rw[<-List.length_append];generalize a++b=c
  induction c with
  |nil=>rfl
  |cons s r ih=>rw[List.flatMap_cons,List.length_append,ih,List.length_cons];simp only[List.length_cons,List.length_nil];omega
 rw[<-h0];have h1:(l.map fun s=>(s.edge,s.lo)).Nodup:=by
  have h2:=hl.1;have h3:=hl.2;clear h hl h0
  induction l with
  |nil=>exact .nil
  |cons s r ih=>
   rw[List.pairwise_cons]at h3;rw[List.map_cons,List.nodup_cons];refine⟨fun hc=>?_,ih (fun t ht=>h2 t (List.mem_cons_of_mem _ ht)) h3.2⟩;obtain⟨t,h4,h5⟩:=List.mem_map.1 hc;simp only[Prod.mk.injEq]at h5;have h6:=h2 s (List.mem_cons_self ..);have h7:=h6.2.2.1
   rcases h3.1 t h4 with h8|h8<;>omega
 refine Nat.le_trans (Nat.le_of_eq (by rw[List.length_map])) (nodup_len h1 fun x hx=>?_);obtain⟨s,h2,rfl⟩:=List.mem_map.1 hx;have hs:=hl.1 s h2;have h3:hasL l s.edge s.lo=true:=qbp.2 ⟨s,h2,qgq hs (Int.le_refl _) hs.2.2.1⟩;have h4:hasL l s.edge (s.lo-1)=false:=by
  cases h5:hasL l s.edge (s.lo-1)with
  |false=>rfl
  |true=>
   obtain⟨t,h6,h7⟩:=qbp.1 h5;have h8:=qaq.1 h7;obtain⟨q,r,rfl⟩:=List.append_of_mem h2;have hp:=hl.2;rw[List.pairwise_append,List.pairwise_cons]at hp
   rcases List.mem_append.1 h6 with h6|h6
   ·rcases hp.2.2 t h6 s (List.mem_cons_self ..)with h9|h9<;>omega
   ·rcases List.mem_cons.1 h6 with rfl|h6
    ·omega
    ·have:=hs.2.2.1
     rcases hp.2.1.1 t h6 with h9|h9<;>omega
 rw[h]at h3 h4;have h5: ∃u∈a++b,u.edge=s.edge/\(u.lo=s.lo\/u.hi=s.lo):=by
  by_cases h6:hasL a s.edge s.lo=hasL a s.edge (s.lo-1)
  ·by_cases h7:hasL b s.edge s.lo=hasL b s.edge (s.lo-1)
   ·rw[h6,h7,h4]at h3;cases h3
   ·obtain⟨u,h8,h9⟩:=hasL_turn h7
    exact⟨u,List.mem_append_right _ h8,h9⟩
  ·obtain⟨u,h8,h9⟩:=hasL_turn h6
   exact⟨u,List.mem_append_left _ h8,h9⟩
 obtain⟨u,h6,h7,h8⟩:=h5;refine List.mem_flatMap.2 ⟨u,h6,?_⟩;simp only[List.mem_cons,List.not_mem_nil,or_false,Prod.mk.injEq]
 rcases h8 with h8|h8
 ·exact .inl ⟨h7.symm,h8.symm⟩
 ·exact .inr ⟨h7.symm,h8.symm⟩
theorem form_few (a b:List Sn3)(k:Kp3):(formL a b k).length<=2*(a.length+b.length):=norm_len (qcz a b k) (qdq a b k)
end
section
structure Ps3 where
 edge:Int
 at_:Int
 rev:Bool
def stepP (p:Ps3):St3:=⟨p.edge,p.rev⟩
def qat (t:Tp3)(e:Int):Int:=t.edges.getD e.toNat 0
theorem qcc (t:Tp3)(s:St3):lenAt t s=qat t s.edge:=rfl
def onB (t:Tp3)(p:Ps3):Bool:=edgeB t p.edge &&(decide (0<=p.at_) &&decide (p.at_<=qat t p.edge))
def qa4 (t:Tp3)(p:Ps3):Bool:=decide (qaE t=0) &&onB t p
def qaB (t:Tp3)(p:Ps3):Int:=if p.rev=true then p.at_ else qat t p.edge-p.at_
def qbg (p:Ps3)(n:Int):Ps3:=if p.rev=true then⟨p.edge,p.at_-n,true⟩else⟨p.edge,p.at_+n,false⟩
def qbo (t:Tp3)(s:St3):Ps3:=if s.rev=true then⟨s.edge,qat t s.edge,true⟩else⟨s.edge,0,false⟩
def zeroP:Ps3:=⟨0,0,false⟩
theorem qbh {t:Tp3}{p:Ps3}:onB t p=true↔edgeB t p.edge=true/\0<=p.at_/\p.at_<=qat t p.edge:=by
 unfold onB;simp only[Bool.and_eq_true,decide_eq_true_eq]
theorem qcJ (p:Ps3)(n:Int):stepP (qbg p n)=stepP p:=by
 obtain⟨e,a,r⟩:=p
 cases r<;>rfl
theorem qbS (t:Tp3)(p:Ps3)(n:Int):qaB t (qbg p n)=qaB t p-n:=by
 obtain⟨e,a,r⟩:=p
 cases r
 ·show qat t e-(a+n)=qat t e-a-n
  omega
 ·rfl
theorem qfq (p:Ps3)(n m:Int):qbg (qbg p n) m=qbg p (n+m):=by
 obtain⟨e,a,r⟩:=p
 cases r
 ·show(⟨e,a+n+m,false⟩:Ps3)=⟨e,a+(n+m),false⟩
  rw[Int.add_assoc]
 ·show(⟨e,a-n-m,true⟩:Ps3)=⟨e,a-(n+m),true⟩
  rw[show a-n-m=a-(n+m)from by omega]
theorem qgo (p:Ps3):qbg p 0=p:=by
 obtain⟨e,a,r⟩:=p
 cases r
 ·show(⟨e,a+0,false⟩:Ps3)=⟨e,a,false⟩
  rw[Int.add_zero]
 ·show(⟨e,a-0,true⟩:Ps3)=⟨e,a,true⟩
  rw[Int.sub_zero]
theorem qcI (t:Tp3)(s:St3):stepP (qbo t s)=s:=by
 obtain⟨e,r⟩:=s
 cases r<;>rfl
theorem qbR (t:Tp3)(s:St3):qaB t (qbo t s)=lenAt t s:=by
 obtain⟨e,r⟩:=s
 cases r
 ·exact Int.sub_zero _
 ·rfl
theorem moved_on {t:Tp3}{p:Ps3}(h:onB t p=true){n:Int}(h0:0<=n)(hn:n<=qaB t p):onB t (qbg p n)=true:=by
 obtain⟨e,a,r⟩:=p;obtain⟨h1,h2,h3⟩:=qbh.1 h;simp only at h1 h2 h3
 cases r
 ·have hn':n<=qat t e-a:=hn
  exact qbh.2 ⟨h1,show 0<=a+n by omega,show a+n<=qat t e by omega⟩
 ·have hn':n<=a:=hn
  exact qbh.2 ⟨h1,show 0<=a-n by omega,show a-n<=qat t e by omega⟩
theorem begin_on {t:Tp3}(ht:qav t=true){s:St3}(h:edgeB t s.edge=true):onB t (qbo t s)=true:=by
 have h1:=qaT ht h;obtain⟨e,r⟩:=s;have h2:1<=qat t e:=h1.1
 cases r
 ·exact qbh.2 ⟨h,Int.le_refl 0,show(0:Int)<=qat t e by omega⟩
 ·exact qbh.2 ⟨h,show(0:Int)<=qat t e by omega,Int.le_refl _⟩
theorem qcP {t:Tp3}(ht:qav t=true){p:Ps3}(h:onB t p=true):0<=qaB t p/\qaB t p<=1000000:=by
 obtain⟨h1,h2,h3⟩:=qbh.1 h;have h4:=qaT ht (s:=stepP p) h1;rw[qcc]at h4;have h5:qat t (stepP p).edge=qat t p.edge:=rfl;rw[h5]at h4;unfold qaB;split<;>omega
def walkF (t:Tp3):Nat->Ps3->Int->Ps3×Int
 |0,p,n=>if n<=qaB t p then(qbg p n,0)else if(qau t (stepP p)).length=0 then(zeroP,141)else if 1<(qau t (stepP p)).length then(zeroP,140)else(zeroP,2)
 |k+1,p,n=>if n<=qaB t p then(qbg p n,0)else if(qau t (stepP p)).length=0 then(zeroP,141)else if 1<(qau t (stepP p)).length then(zeroP,140)else walkF t k (qbo t ((qau t (stepP p)).getD 0 ⟨0,false⟩)) (n-qaB t p)
theorem qcM {t:Tp3}{k:Nat}{p:Ps3}{n:Int}(h:n<=qaB t p):walkF t k p n=(qbg p n,0):=by
 cases k<;>rw[walkF,if_pos h]
theorem walk_end {t:Tp3}{k:Nat}{p:Ps3}{n:Int}(h: ¬n<=qaB t p)(h1:(qau t (stepP p)).length=0):walkF t k p n=(zeroP,141):=by
 cases k<;>rw[walkF,if_neg h,if_pos h1]
theorem qeb {t:Tp3}{k:Nat}{p:Ps3}{n:Int}(h: ¬n<=qaB t p)(h1:1<(qau t (stepP p)).length):walkF t k p n=(zeroP,140):=by
 cases k<;>rw[walkF,if_neg h,if_neg (by omega),if_pos h1]
theorem qfU {t:Tp3}{p:Ps3}{n:Int}(h: ¬n<=qaB t p)(h1:(qau t (stepP p)).length=1):walkF t 0 p n=(zeroP,2):=by
 rw[walkF,if_neg h,if_neg (by omega),if_neg (by omega)]
theorem walk_on {t:Tp3}{k:Nat}{p:Ps3}{n:Int}{s:St3}(h: ¬n<=qaB t p)(h1:qau t (stepP p)=[s]):walkF t (k+1) p n=walkF t k (qbo t s) (n-qaB t p):=by
 rw[walkF,if_neg h,h1]
 rfl
theorem len_one {α:Type}{l:List α}(h:l.length=1): ∃s,l=[s]:=List.length_eq_one_iff.1 h
theorem walk_cases (t:Tp3)(k:Nat)(p:Ps3)(n:Int):
  (n<=qaB t p/\walkF t k p n=(qbg p n,0))\/(¬n<=qaB t p/\((∃e,walkF t k p n=(zeroP,e)/\(e=141\/e=140\/e=2)/\(e=2->k=0))\/ ∃s j,k=j+1/\qau t (stepP p)=[s]/\walkF t k p n=walkF t j (qbo t s) (n-qaB t p))):=by
 by_cases h:n<=qaB t p
 ·exact .inl ⟨h,qcM h⟩
 ·refine .inr ⟨h,?_⟩
  by_cases h1:(qau t (stepP p)).length=0
  ·exact .inl ⟨141,walk_end h h1,.inl rfl,fun e=>absurd e (by decide)⟩
  ·by_cases h2:1<(qau t (stepP p)).length
   ·exact .inl ⟨140,qeb h h2,.inr (.inl rfl),fun e=>absurd e (by decide)⟩
   ·have h3:(qau t (stepP p)).length=1:=by omega
    cases k with
    |zero=>exact .inl ⟨2,qfU h h3,.inr (.inr rfl),fun _=>rfl⟩
    |succ j=>
     obtain⟨s,hs⟩:=len_one h3;exact .inr ⟨s,j,rfl,hs,walk_on h hs⟩
def onGo (t:Tp3)(p:Ps3):List St3->Int->Option Int
 |[],_=>none
 |s::r,n=>if eqS s (stepP p)=true then some (n+lenAt t s-qaB t p)else onGo t p r (n+lenAt t s)
def offGo (t:Tp3):List St3->Int->Ps3
 |[],_=>zeroP
 |s::r,n=>if n<=lenAt t s then qbg (qbo t s) n else offGo t r (n-lenAt t s)
theorem on_app {t:Tp3}{p:Ps3}{a b:List St3}{c:Int}(h: ∀s∈a,s≠stepP p):onGo t p (a++b) c=onGo t p b (c+sumT t a):=by
 induction a generalizing c with
 |nil=>
  show onGo t p b c=onGo t p b (c+0)
  rw[Int.add_zero]
 |cons x r ih=>
  show onGo t p (x::(r++b)) c=_
  rw[onGo,if_neg (by rw[qaX];exact h x (List.mem_cons_self ..)),ih fun s hs=>h s (List.mem_cons_of_mem _ hs),show c+sumT t (x::r)=c+(lenAt t x+sumT t r)from rfl,Int.add_assoc]
theorem along_here {t:Tp3}{k:Nat}{s:St3}{r:List St3}{a m:Int}(ht:qav t=true)(he: ∀x∈s::r,edgeB t x.edge=true)(hw:wayB t (s::r)=true)(ha:0<=a)(hal:a<=lenAt t s)(hm:0<=m)(hs:a+m<=sumT t (s::r))(hk:r.length<=k):walkF t k (qbg (qbo t s) a) m=(offGo t (s::r) (a+m),0)\/(walkF t k (qbg (qbo t s) a) m).2=140:=by
 induction r generalizing k s a m with
 |nil=>
  have h1:a+m<=lenAt t s:=by
   have:sumT t [s]=lenAt t s+0:=rfl;omega
  rw[qcM (by rw[qbS,qbR];omega),qfq,offGo,if_pos h1];exact .inl rfl
 |cons y r ih=>
  by_cases h:a+m<=lenAt t s
  ·rw[qcM (by rw[qbS,qbR];omega),qfq,offGo,if_pos h]
   exact .inl rfl
  ·rw[wayB,Bool.and_eq_true]at hw
   have hx: ¬m<=qaB t (qbg (qbo t s) a):=by rw[qbS,qbR];omega
   have hst:stepP (qbg (qbo t s) a)=s:=by rw[qcJ,qcI]
   have hy:y∈qau t s:=qbd.2 ⟨he s (List.mem_cons_self ..),he y (by simp),hw.1⟩;have hl:(qau t s).length≠0:=by
    intro h0;rw[List.length_eq_zero_iff.1 h0]at hy
    cases hy
   by_cases h2:1<(qau t s).length
   ·rw[qeb hx (by rw[hst];exact h2)]
    exact .inr rfl
   ·obtain⟨z,hz⟩:=len_one (l:=qau t s) (by omega)
    have:y=z:=by
     rw[hz]at hy;exact List.mem_singleton.1 hy
    subst this;obtain⟨j,rfl⟩: ∃j,k=j+1:=⟨k-1,by rw[List.length_cons]at hk;omega⟩
    have h3:sumT t (s::y::r)=lenAt t s+sumT t (y::r):=rfl;have h4:=qaT ht (he y (by simp));have:=ih (k:=j) (s:=y) (a:=0) (m:=m-(lenAt t s-a)) (fun x hx=>he x (List.mem_cons_of_mem _ hx)) hw.2 (Int.le_refl 0) (by omega) (by omega) (by omega) (by rw[List.length_cons]at hk;omega);rw[walk_on hx (by rw[hst];exact hz),qbS,qbR,offGo,if_neg h,show a+m-lenAt t s=0+(m-(lenAt t s-a))from by omega];rw[qgo]at this;exact this
theorem along {t:Tp3}{path:List St3}{n m:Int}{k:Nat}(ht:qav t=true)(he: ∀x∈path,edgeB t x.edge=true)(hw:wayB t path=true)(h0:0<=n)(hm:0<=m)(hs:n+m<=sumT t path)(hp:path≠[])(hk:path.length<=k):walkF t k (offGo t path n) m=(offGo t path (n+m),0)\/(walkF t k (offGo t path n) m).2=140:=by
 induction path generalizing n with
 |nil=>exact absurd rfl hp
 |cons s r ih=>
  have h3:sumT t (s::r)=lenAt t s+sumT t r:=rfl;by_cases h:n<=lenAt t s
  ·have h1:offGo t (s::r) n=qbg (qbo t s) n:=by rw[offGo,if_pos h]
   rw[h1];exact along_here ht he hw h0 h hm hs (by rw[List.length_cons]at hk;omega)
  ·have hr:r≠[]:=by
    rintro rfl;have:sumT t []=0:=rfl;omega
   have h1:offGo t (s::r) n=offGo t r (n-lenAt t s):=by rw[offGo,if_neg h]
   have h2:offGo t (s::r) (n+m)=offGo t r (n-lenAt t s+m):=by rw[offGo,if_neg (by omega),show n+m-lenAt t s=n-lenAt t s+m from by omega]
   rw[h1,h2];refine ih (fun x hx=>he x (List.mem_cons_of_mem _ hx)) ?_ (by omega) (by omega) hr (by rw[List.length_cons]at hk;omega)
   cases r with
   |nil=>exact absurd rfl hr
   |cons y r=>
    rw[wayB,Bool.and_eq_true]at hw;exact hw.2
def walkE (t:Tp3)(p:Ps3)(n:Int):Ps3×Int:=if qa4 t p=true/\0<=n/\n<=1099511627776 then walkF t 40 p n else(zeroP,1)
def locE (t:Tp3)(id:Int)(rev:Bool)(n:Int):Ps3×Int:=if qaE t=0 then(match balF t id with|some b=>walkE t ⟨b.edge,b.at_,rev⟩ n|none=>(zeroP,4))else(zeroP,1)
def onE (t:Tp3)(path:List St3)(p:Ps3):Int×Int:=if qa4 t p=true then(if lenE t path=0 then(match onGo t p path 0 with|some n=>(n,0)|none=>(0,4))else(0,lenE t path))else(0,1)
theorem qdV {t:Tp3}{path:List St3}(h:lenE t path=0):path≠[]/\path.length<=40/\(∀s∈path,edgeB t s.edge=true)/\wayB t path=true:=by
 unfold lenE at h;split at h
 ·exact absurd h (by decide)
 ·rename_i h1
  split at h
  ·rename_i h2
   split at h
   ·rename_i h3
    rw[List.all_eq_true]at h2;refine⟨?_,by omega,h2,h3⟩;rintro rfl;exact h1 (.inl rfl)
   ·exact absurd h (by decide)
  ·exact absurd h (by decide)
theorem qaO {t:Tp3}{p:Ps3}:qa4 t p=true↔qaE t=0/\onB t p=true:=by
 unfold qa4;rw[Bool.and_eq_true,decide_eq_true_eq]
end
section
def normL (l:List Sn3):List Sn3:=formL l [] ⟨true,false,false⟩
def qcK (a b:List Sn3):List Sn3:=formL a b ⟨true,true,true⟩
def qdA (a b:List Sn3):List Sn3:=formL a b ⟨true,false,false⟩
def bothL (a b:List Sn3):List Sn3:=formL a b ⟨false,false,true⟩
def withinL (a b:List Sn3):Bool:=(qdA a b).isEmpty
def qdX (a b:List Sn3):Bool:=!(bothL a b).isEmpty
def sumN:List Sn3->Int
 |[]=>0
 |s::r=>s.hi-s.lo+sumN r
def qcu (l:List Sn3):Int:=sumN (normL l)
theorem qcs (l:List Sn3)(e x:Int):hasL (normL l) e x=hasL l e x:=by
 unfold normL;rw[qdq,show hasL [] e x=false from rfl]
 cases hasL l e x<;>rfl
theorem qdj (a b:List Sn3)(e x:Int):hasL (qcK a b) e x=(hasL a e x||hasL b e x):=by
 unfold qcK;rw[qdq]
 cases hasL a e x<;>cases hasL b e x<;>rfl
theorem qdY (a b:List Sn3)(e x:Int):hasL (qdA a b) e x=(hasL a e x &&!hasL b e x):=by
 unfold qdA;rw[qdq]
 cases hasL a e x<;>cases hasL b e x<;>rfl
theorem qcS (a b:List Sn3)(e x:Int):hasL (bothL a b) e x=(hasL a e x &&hasL b e x):=by
 unfold bothL;rw[qdq]
 cases hasL a e x<;>cases hasL b e x<;>rfl
theorem qbi (l:List Sn3):normP (normL l):=qcz _ _ _
theorem qcv (a b:List Sn3):normP (qcK a b):=qcz _ _ _
theorem qdb (a b:List Sn3):normP (qdA a b):=qcz _ _ _
theorem qcd (a b:List Sn3):normP (bothL a b):=qcz _ _ _
theorem qfs {l:List Sn3}(h:normP l):normL l=l:=qb4 (qbi l) h fun e x=>qcs l e x
theorem norm_of {l m:List Sn3}(hm:normP m)(h: ∀e x,hasL m e x=hasL l e x):normL l=m:=qb4 (qbi l) hm fun e x=>(qcs l e x).trans (h e x).symm
theorem qek:normP []:=⟨fun _ h=>(by cases h),List.Pairwise.nil⟩
theorem empty_iff {l:List Sn3}(h:normP l):l.isEmpty=true↔ ∀e x,hasL l e x=false:=by
 constructor
 ·intro h1 e x
  rw[List.isEmpty_iff.1 h1]
  rfl
 ·intro h1
  rw[List.isEmpty_iff];exact qb4 h qek fun e x=>(h1 e x).trans rfl
theorem within_iff {a b:List Sn3}:withinL a b=true↔ ∀e x,hasL a e x=true->hasL b e x=true:=by
 unfold withinL;rw[empty_iff (qdb a b)]
 constructor
 ·intro h e x h1
  have h2:=h e x;rw[qdY,h1]at h2
  cases h3:hasL b e x with
  |true=>rfl
  |false=>rw[h3]at h2;cases h2
 ·intro h e x
  rw[qdY]
  cases h1:hasL a e x with
  |false=>rfl
  |true=>rw[h e x h1];rfl
theorem meets_iff {a b:List Sn3}:qdX a b=true↔ ∃e x,hasL a e x=true/\hasL b e x=true:=by
 have h0:qdX a b=false↔ ∀e x,hasL (bothL a b) e x=false:=by
  unfold qdX;rw[<-empty_iff (qcd a b)]
  cases(bothL a b).isEmpty<;>simp
 constructor
 ·intro h
  refine Classical.byContradiction fun hc=>?_;have h1:=h0.2 fun e x=>by
   rw[qcS]
   cases h2:hasL a e x with
   |false=>rfl
   |true=>
    cases h3:hasL b e x with
    |false=>rfl
    |true=>exact absurd ⟨e,x,h2,h3⟩ hc
  rw[h]at h1
  cases h1
 ·rintro⟨e,x,h1,h2⟩
  cases h3:qdX a b with
  |true=>rfl
  |false=>
   have:=h0.1 h3 e x;rw[qcS,h1,h2]at this
   cases this
/-! How many. -/
def cntX:Nat->(Int->Bool)->Nat
 |0,_=>0
 |n+1,p=>cntX n p+(if p n=true then 1 else 0)
theorem cntX_or {p q:Int->Bool}(n:Nat)(h: ∀x,¬(p x=true/\q x=true)):cntX n (fun x=>p x||q x)=cntX n p+cntX n q:=by
 induction n with
 |zero=>rfl
 |succ n ih=>
  rw[cntX,cntX,cntX,ih];have h1:=h n
  cases hp:p n<;>cases hq:q n
  ·simp
  ·simp;omega
  ·simp;omega
  ·exact absurd ⟨hp,hq⟩ h1
theorem cntX_none {p:Int->Bool}(n:Nat)(h: ∀x,p x=false):cntX n p=0:=by
 induction n with
 |zero=>rfl
 |succ n ih=>rw[cntX,ih,h];rfl
theorem cntX_iv {p:Int->Bool}{a b:Int}(n:Nat)(h: ∀x,p x=true↔a<=x/\x<b)(h0:0<=a)(hab:a<=b):(cntX n p:Int)=if(n:Int)<=a then 0 else if(n:Int)<=b then n-a else b-a:=by
 induction n with
 |zero=>rw[cntX,if_pos (by omega)];rfl
 |succ n ih=>
  rw[cntX];have h1:=h n;by_cases hp:p n=true
  ·have h2:=h1.1 hp
   rw[if_pos hp,Int.natCast_add,ih]
   (repeat' split)<;>omega
  ·have h2: ¬(a<=(n:Int)/\(n:Int)<b):=fun h3=>hp (h1.2 h3)
   rw[if_neg hp,Nat.add_zero,ih]
   (repeat' split)<;>omega
def cntE (n:Nat):Nat->(Int->Int->Bool)->Nat
 |0,_=>0
 |e+1,p=>cntE n e p+cntX n (p e)
theorem cntE_or {p q:Int->Int->Bool}(n m:Nat)(h: ∀e x,¬(p e x=true/\q e x=true)):cntE n m (fun e x=>p e x||q e x)=cntE n m p+cntE n m q:=by
 induction m with
 |zero=>rfl
 |succ m ih=>rw[cntE,cntE,cntE,ih,cntX_or n (h m)];omega
theorem cntE_none {p:Int->Int->Bool}(n m:Nat)(h: ∀e x,p e x=false):cntE n m p=0:=by
 induction m with
 |zero=>rfl
 |succ m ih=>rw[cntE,ih,cntX_none n (h m)]
theorem cntE_span {s:Sn3}(n m:Nat)(hs:okN s)(hn:s.hi<=n):(cntE n m (hasS s):Int)=if s.edge<m then s.hi-s.lo else 0:=by
 have hs':=hs;obtain⟨h1,h2,h3,h4⟩:=hs'
 induction m with
 |zero=>rw[cntE,if_neg (by omega)];rfl
 |succ m ih=>
  rw[cntE,Int.natCast_add,ih];by_cases he:s.edge=m
  ·rw[if_neg (by omega),if_pos (by omega),cntX_iv (a:=s.lo) (b:=s.hi) n (fun x=>by rw[qaq];omega) h2 (by omega),if_neg (by omega)]
   split<;>omega
  ·rw[cntX_none n fun x=>by
    cases hq:hasS s m x with
    |false=>rfl
    |true=>exact absurd (qaq.1 hq).2.2.2.1 he]
   split<;>split<;>omega
def djP (l:List Sn3):Prop:=(∀s∈l,okN s)/\l.Pairwise fun s t=> ∀e x,¬(hasS s e x=true/\hasS t e x=true)
theorem qel {l:List Sn3}(h:normP l):djP l:=by
 refine⟨h.1,h.2.imp fun hst e x=>?_⟩;rintro⟨h1,h2⟩;have h3:=qaq.1 h1;have h4:=qaq.1 h2
 rcases hst with h5|⟨h5,h6⟩<;>omega
theorem sum_cnt {l:List Sn3}(n m:Nat)(h:djP l)(hn: ∀s∈l,s.hi<=n)(hm: ∀s∈l,s.edge<m):sumN l=cntE n m (hasL l):=by
 induction l with
 |nil=>rw[cntE_none (p:=hasL []) n m fun e x=>rfl];rfl
 |cons s r ih=>
  have h1:=List.pairwise_cons.1 h.2;have hd: ∀e x,¬(hasS s e x=true/\hasL r e x=true):=by
   rintro e x ⟨h2,h3⟩;obtain⟨t,h4,h5⟩:=qbp.1 h3;exact h1.1 t h4 e x ⟨h2,h5⟩
  have e0:hasL (s::r)=fun e x=>hasS s e x||hasL r e x:=funext fun e=>funext fun x=>qbf s r e x;rw[e0,cntE_or n m hd,Int.natCast_add,cntE_span n m (h.1 s (List.mem_cons_self ..)) (hn s (List.mem_cons_self ..)),if_pos (hm s (List.mem_cons_self ..)),<-ih ⟨fun t ht=>h.1 t (List.mem_cons_of_mem _ ht),h1.2⟩ (fun t ht=>hn t (List.mem_cons_of_mem _ ht)) fun t ht=>hm t (List.mem_cons_of_mem _ ht)]
  rfl
theorem edge_top (l:List Sn3): ∃m:Nat,∀s∈l,s.edge<m:=by
 induction l with
 |nil=>exact⟨0,fun _ h=>(by cases h)⟩
 |cons s r ih=>
  obtain⟨m,hm⟩:=ih;refine⟨m+s.edge.toNat+1,fun t ht=>?_⟩
  rcases List.mem_cons.1 ht with rfl|ht
  ·omega
  ·have:=hm t ht
   omega
theorem sum_split {a c d:List Sn3}(ha:djP a)(hc:djP c)(hd:djP d)(h1: ∀e x,hasL a e x=(hasL c e x||hasL d e x))(h2: ∀e x,¬(hasL c e x=true/\hasL d e x=true)):sumN a=sumN c+sumN d:=by
 obtain⟨m,hm⟩:=edge_top (a++(c++d));obtain⟨n,hn⟩: ∃n:Nat,n=1000000:=⟨_,rfl⟩
 have hb: ∀l,djP l-> ∀s∈l,s.hi<=n:=fun l hl s hs=>by
  have:=(hl.1 s hs).2.2.2;omega
 rw[sum_cnt n m ha (hb a ha) fun s hs=>hm s (List.mem_append_left _ hs),sum_cnt n m hc (hb c hc) fun s hs=>hm s (List.mem_append_right _ (List.mem_append_left _ hs)),sum_cnt n m hd (hb d hd) fun s hs=>hm s (List.mem_append_right _ (List.mem_append_right _ hs))];have e0:hasL a=fun e x=>hasL c e x||hasL d e x:=funext fun e=>funext fun x=>h1 e x;rw[e0,cntE_or n m h2,Int.natCast_add]
theorem sum_same {a c:List Sn3}(ha:djP a)(hc:djP c)(h: ∀e x,hasL a e x=hasL c e x):sumN a=sumN c:=by
 rw[sum_split (d:=[]) ha hc (qel qek) (fun e x=>by rw[h,show hasL [] e x=false from rfl,Bool.or_false]) fun e x h=>by cases h.2];exact Int.add_zero _
theorem parts (a b:List Sn3):qcK (bothL a b) (qdA a b)=normL a/\bothL b a=bothL a b/\qcK a b=qcK b a/\qdX (bothL a b) (qdA a b)=false/\qcu (bothL a b)+qcu (qdA a b)=qcu a/\withinL (bothL a b) b=true/\withinL a (qcK a b)=true:=by
 have hd: ∀e x,¬(hasL (bothL a b) e x=true/\hasL (qdA a b) e x=true):=fun e x h=>by
  rw[qcS,qdY]at h
  cases h1:hasL a e x<;>cases h2:hasL b e x<;>rw[h1,h2]at h<;>simp at h
 have hu: ∀e x,hasL a e x=(hasL (bothL a b) e x||hasL (qdA a b) e x):=fun e x=>by
  rw[qcS,qdY]
  cases hasL a e x<;>cases hasL b e x<;>rfl
 refine⟨qb4 (qcv _ _) (qbi _) fun e x=>?_,qb4 (qcd _ _) (qcd _ _) fun e x=>?_,qb4 (qcv _ _) (qcv _ _) fun e x=>?_,?_,?_,within_iff.2 fun e x h=>?_,within_iff.2 fun e x h=>?_⟩
 ·rw[qdj,qcs,<-hu]
 ·rw[qcS,qcS,Bool.and_comm]
 ·rw[qdj,qdj,Bool.or_comm]
 ·cases h:qdX (bothL a b) (qdA a b)with
  |false=>rfl
  |true=>obtain⟨e,x,h1,h2⟩:=meets_iff.1 h;exact absurd ⟨h1,h2⟩ (hd e x)
 ·unfold qcu
  rw[qfs (qcd a b),qfs (qdb a b)];exact(sum_split (qel (qbi a)) (qel (qcd a b)) (qel (qdb a b)) (fun e x=>by rw[qcs,<-hu]) hd).symm
 ·rw[qcS,Bool.and_eq_true]at h
  exact h.2
 ·rw[qdj,h]
  rfl
/-! What a way goes over. -/
def partN (s:St3)(n a b:Int):List Sn3:=if a<b then[if s.rev=true then⟨s.edge,n-b,n-a⟩else⟨s.edge,a,b⟩]else[]
def cutA (fr at_:Int):Int:=if fr-at_<0 then 0 else fr-at_
def cutB (tz at_ n:Int):Int:=if n<tz-at_ then n else tz-at_
def ovGo (t:Tp3)(fr tz:Int):List St3->Int->List Sn3
 |[],_=>[]
 |s::r,at_=>partN s (lenAt t s) (cutA fr at_) (cutB tz at_ (lenAt t s))++ovGo t fr tz r (at_+lenAt t s)
def overE (t:Tp3)(path:List St3)(fr tz:Int):List Sn3×Int:=
 if lenE t path=0 then(if qav t=true/\ ¬(fr<0\/tz<fr\/sumT t path<tz)then(normL (ovGo t fr tz path 0),0)else([],1))else([],lenE t path)
theorem cut_eqA (fr at_:Int):cutA fr at_=max 0 (fr-at_):=by
 unfold cutA;split<;>omega
theorem cut_eqB (tz at_ n:Int):cutB tz at_ n=min n (tz-at_):=by
 unfold cutB;split<;>omega
def posN (s:St3)(n x:Int):Int:=if s.rev=true then n-1-x else x
theorem part_has {s:St3}{n at_ fr tz e x:Int}(he:0<=s.edge)(hn:n<=1000000):hasL (partN s n (cutA fr at_) (cutB tz at_ n)) e x=(decide (s.edge=e/\0<=x/\x<n) &&decide (fr<=at_+posN s n x/\at_+posN s n x<tz)):=by
 rw[cut_eqA,cut_eqB];unfold partN posN;obtain⟨se,rv⟩:=s;dsimp only at*;rw[Bool.eq_iff_iff,Bool.and_eq_true,decide_eq_true_eq,decide_eq_true_eq];split
 ·rw[qbp]
  simp only[List.mem_singleton,exists_eq_left]
  cases rv
  ·rw[if_neg (by decide),if_neg (by decide),qaq]
   dsimp only;omega
  ·rw[if_pos rfl,if_pos rfl,qaq]
   dsimp only;omega
 ·rw[show hasL [] e x=false from rfl]
  cases rv
  ·rw[if_neg (by decide)]
   constructor
   ·intro h;cases h
   ·rintro⟨h1,h2⟩;omega
  ·rw[if_pos rfl]
   constructor
   ·intro h;cases h
   ·rintro⟨h1,h2⟩;omega
theorem part_ok {s:St3}{n at_ fr tz:Int}(he:0<=s.edge)(hn:n<=1000000): ∀u∈partN s n (cutA fr at_) (cutB tz at_ n),okN u:=by
 rw[cut_eqA,cut_eqB];unfold partN;obtain⟨se,rv⟩:=s;dsimp only at*;intro u hu;split at hu
 ·rw[List.mem_singleton]at hu
  subst hu
  cases rv
  ·rw[if_neg (by decide)]
   unfold okN;dsimp only;omega
  ·rw[if_pos rfl]
   unfold okN;dsimp only;omega
 ·cases hu
theorem sumN_app (a b:List Sn3):sumN (a++b)=sumN a+sumN b:=by
 induction a with
 |nil=>exact(Int.zero_add _).symm
 |cons s r ih=>
  show s.hi-s.lo+sumN (r++b)=s.hi-s.lo+sumN r+sumN b
  rw[ih];omega
theorem part_sum (s:St3)(n a b:Int):sumN (partN s n a b)=max 0 (b-a):=by
 unfold partN;obtain⟨se,rv⟩:=s;split
 ·cases rv
  ·show(b-a)+0=_
   omega
  ·show(n-a-(n-b))+0=_
   omega
 ·show(0:Int)=_
  omega
theorem ov_sum {t:Tp3}{fr tz:Int}{path:List St3}{at_:Int}(hft:fr<=tz)(hp: ∀s∈path,1<=lenAt t s):sumN (ovGo t fr tz path at_)=max 0 (min tz (at_+sumT t path)-max fr at_)/\0<=sumT t path:=by
 induction path generalizing at_ with
 |nil=>
  refine⟨?_,Int.le_refl _⟩;show(0:Int)=max 0 (min tz (at_+0)-max fr at_)
  omega
 |cons s r ih=>
  have h1:=hp s (List.mem_cons_self ..);have h2:=ih (at_:=at_+lenAt t s) fun u hu=>hp u (List.mem_cons_of_mem _ hu);rw[ovGo,sumN_app,part_sum,h2.1,cut_eqA,cut_eqB,show sumT t (s::r)=lenAt t s+sumT t r from rfl];have h3:=h2.2;generalize lenAt t s=n at*;generalize sumT t r=q at*;omega
theorem way_nums {t:Tp3}{path:List St3}(h:lenE t path=0)(ht:qav t=true): ∀s∈path,0<=s.edge/\1<=lenAt t s/\lenAt t s<=1000000:=fun s hs=>by
 have h1:=(qdV h).2.2.1 s hs;have h2:=qaT ht h1;unfold edgeB at h1;simp only[Bool.and_eq_true,decide_eq_true_eq]at h1;exact⟨h1.1,h2⟩
theorem over_zero {t:Tp3}{path:List St3}{fr tz:Int}(h:(overE t path fr tz).2=0):lenE t path=0/\qav t=true/\0<=fr/\fr<=tz/\tz<=sumT t path/\(overE t path fr tz).1=normL (ovGo t fr tz path 0):=by
 unfold overE at h⊢;split at h
 ·rename_i h1
  rw[if_pos h1];split at h
  ·rename_i h2
   rw[if_pos h2];exact⟨h1,h2.1,by have:=h2.2;omega,by have:=h2.2;omega,by have:=h2.2;omega,rfl⟩
  ·exact absurd h (show¬(1:Int)=0 by decide)
 ·rename_i h1
  exact absurd h h1
theorem over_ok {t:Tp3}{path:List St3}{fr tz:Int}(h1:lenE t path=0)(h2:qav t=true)(h3:0<=fr)(h4:fr<=tz)(h5:tz<=sumT t path):overE t path fr tz=(normL (ovGo t fr tz path 0),0):=by
 unfold overE;rw[if_pos h1,if_pos ⟨h2,by omega⟩]
end
section
structure Lc3 where
 route:Int
 train:Int
 no:Int
structure It3 where
 locks:List Lc3
 next:Int
def extL (t:Tp3)(route:Int):List Sn3:=
 match qaS t route with
 |none=>[]
 |some r=>(overE t r.path 0 (sumT t r.path)).1
def trainB (n:Int):Bool:=decide (0<=n) &&decide (n<=16777215)
def qfR (l:List Lc3)(route:Int):Bool:=l.any fun k=>k.route==route
def metK (t:Tp3)(route train:Int)(k:Lc3):Bool:=!(k.train==train) &&qdX (extL t route) (extL t k.route)
def metB (t:Tp3)(l:List Lc3)(route train:Int):Bool:=l.any (metK t route train)
def lastB (l:List Lc3)(n:Int):Bool:=
 match l.getLast? with
 |none=>true
 |some p=>decide (p.no<n)
def okK (t:Tp3)(next:Int)(ahead:List Lc3)(k:Lc3):Bool:=
 (qaS t k.route).isSome &&(trainB k.train &&(decide (1<=k.no) &&(decide (k.no<next) &&(lastB ahead k.no &&(!qfR ahead k.route &&!metB t ahead k.route k.train)))))
def mayGo (t:Tp3)(next:Int):List Lc3->List Lc3->Bool
 |_,[]=>true
 |ahead,k::r=>okK t next ahead k &&mayGo t next (ahead++[k]) r
def mayB (t:Tp3)(x:It3):Bool:=decide (qaE t=0) &&(decide (x.locks.length<=24) &&(decide (1<=x.next) &&(decide (x.next<=1099511627776) &&mayGo t x.next [] x.locks)))
def zeroI:It3:=⟨[],0⟩
def setE (t:Tp3)(x:It3)(route train:Int):It3×Int×Int:=
 if(mayB t x &&trainB train)=false then(zeroI,0,1)
 else if(qaS t route).isSome=false then(zeroI,0,4)
 else if qfR x.locks route=true then(zeroI,0,5)
 else if metB t x.locks route train=true then(zeroI,0,160)
 else if x.locks.length=24\/x.next=1099511627776 then(zeroI,0,3)
 else(⟨x.locks++[⟨route,train,x.next⟩],x.next+1⟩,x.next,0)
def ofL (l:List Lc3)(train:Int):List Lc3:=l.filter fun k=>k.train==train
def eqK (a b:Lc3):Bool:=(a.route==b.route) &&((a.train==b.train) &&(a.no==b.no))
theorem eqK_iff (a b:Lc3):eqK a b=true↔a=b:=by
 obtain⟨x,y,z⟩:=a;obtain⟨u,v,w⟩:=b;unfold eqK;simp
def pairP (t:Tp3)(p q:Lc3):Prop:=p.no<q.no/\p.route≠q.route/\(p.train≠q.train->qdX (extL t q.route) (extL t p.route)=false)
def oneP (t:Tp3)(next:Int)(k:Lc3):Prop:=(qaS t k.route).isSome=true/\trainB k.train=true/\1<=k.no/\k.no<next
theorem qdM {l:List Lc3}{route:Int}:qfR l route=false↔ ∀p∈l,p.route≠route:=by
 unfold qfR;rw[List.any_eq_false];simp
theorem met_false {t:Tp3}{l:List Lc3}{route train:Int}:metB t l route train=false↔ ∀p∈l,p.train≠train->qdX (extL t route) (extL t p.route)=false:=by
 unfold metB;rw[List.any_eq_false];unfold metK;refine forall_congr' fun p=>forall_congr' fun _=>?_;by_cases h:p.train=train
 ·simp[h]
 ·simp[h]
theorem last_iff {l:List Lc3}{n:Int}(h:l.Pairwise fun p q=>p.no<q.no):lastB l n=true↔ ∀p∈l,p.no<n:=by
 unfold lastB
 cases hq:l.getLast? with
 |none=>
  rw[List.getLast?_eq_none_iff]at hq;subst hq;simp
 |some q=>
  obtain⟨m,rfl⟩:=List.getLast?_eq_some_iff.1 hq;rw[List.pairwise_append]at h;simp only[decide_eq_true_eq]
  constructor
  ·intro hn p hp
   rcases List.mem_append.1 hp with hp|hp
   ·exact Int.lt_trans (h.2.2 p hp q (by simp)) hn
   ·simp at hp
    subst hp;exact hn
  ·intro hn
   exact hn q (by simp)
theorem mayGo_iff {t:Tp3}{next:Int}{ahead l:List Lc3}(ha:ahead.Pairwise (pairP t)):mayGo t next ahead l=true↔(∀k∈l,oneP t next k)/\(ahead++l).Pairwise (pairP t):=by
 induction l generalizing ahead with
 |nil=>simp[mayGo,ha]
 |cons k r ih=>
  have hn:ahead.Pairwise fun p q=>p.no<q.no:=ha.imp fun h=>h.1;unfold mayGo okK;simp only[Bool.and_eq_true,Bool.not_eq_true',decide_eq_true_eq];rw[last_iff hn,qdM,met_false];have e:ahead++k::r=ahead++[k]++r:=by simp
  constructor
  ·rintro⟨⟨h1,h2,h3,h4,h5,h6,h7⟩,h8⟩
   have hk:(ahead++[k]).Pairwise (pairP t):=by
    rw[List.pairwise_append];refine⟨ha,List.pairwise_singleton _ _,fun p hp q hq=>?_⟩;simp at hq;subst hq;exact⟨h5 p hp,h6 p hp,h7 p hp⟩
   obtain⟨h9,h10⟩:=(ih hk).1 h8;refine⟨fun q hq=>?_,by rw[e];exact h10⟩
   rcases List.mem_cons.1 hq with rfl|hq
   ·exact⟨h1,h2,h3,h4⟩
   ·exact h9 q hq
  ·rintro⟨h1,h2⟩
   rw[e]at h2;have hk:=(List.pairwise_append.1 h2).1;have h3:=h1 k (List.mem_cons_self ..);rw[List.pairwise_append]at hk;have h4: ∀p∈ahead,pairP t p k:=fun p hp=>hk.2.2 p hp k (by simp);exact⟨⟨h3.1,h3.2.1,h3.2.2.1,h3.2.2.2,fun p hp=>(h4 p hp).1,fun p hp=>(h4 p hp).2.1,fun p hp=>(h4 p hp).2.2⟩,(ih (List.pairwise_append.1 h2).1).2 ⟨fun q hq=>h1 q (List.mem_cons_of_mem _ hq),h2⟩⟩
structure MayP (t:Tp3) (x:It3):Prop where
 check:qaE t=0
 few:x.locks.length<=24
 lo:1<=x.next
 hi:x.next<=1099511627776
 one: ∀k∈x.locks,oneP t x.next k
 pair:x.locks.Pairwise (pairP t)
theorem may_iff {t:Tp3}{x:It3}:mayB t x=true↔MayP t x:=by
 unfold mayB;simp only[Bool.and_eq_true,decide_eq_true_eq];rw[mayGo_iff .nil,List.nil_append];exact⟨fun⟨h1,h2,h3,h4,h5,h6⟩=>⟨h1,h2,h3,h4,h5,h6⟩,fun h=>⟨h.check,h.few,h.lo,h.hi,h.one,h.pair⟩⟩
theorem set_may {t:Tp3}{x:It3}{route train:Int}(h:(setE t x route train).2.2=0):setE t x route train=(⟨x.locks++[⟨route,train,x.next⟩],x.next+1⟩,x.next,0)/\mayB t ⟨x.locks++[⟨route,train,x.next⟩],x.next+1⟩=true/\mayB t x=true/\qfR x.locks route=false:=by
 unfold setE at h⊢;by_cases h1:(mayB t x &&trainB train)=false
 ·rw[if_pos h1]at h;cases h
 rw[if_neg h1]at h⊢;by_cases h2:(qaS t route).isSome=false
 ·rw[if_pos h2]at h;cases h
 rw[if_neg h2]at h⊢;by_cases h3:qfR x.locks route=true
 ·rw[if_pos h3]at h;cases h
 rw[if_neg h3]at h⊢;by_cases h4:metB t x.locks route train=true
 ·rw[if_pos h4]at h;cases h
 rw[if_neg h4]at h⊢;by_cases h5:x.locks.length=24\/x.next=1099511627776
 ·rw[if_pos h5]at h;cases h
 rw[if_neg h5];simp only[Bool.not_eq_false,Bool.and_eq_true]at h1;have hm:=may_iff.1 h1.1;have h3':qfR x.locks route=false:=by simpa using h3
 have h4':metB t x.locks route train=false:=by simpa using h4
 refine⟨rfl,may_iff.2 ⟨hm.check,?_,?_,?_,fun k hk=>?_,?_⟩,h1.1,h3'⟩
 ·have:=hm.few
  simp;omega
 ·have:=hm.lo
  dsimp only;omega
 ·have:=hm.hi
  dsimp only;omega
 ·rcases List.mem_append.1 hk with hk|hk
  ·have:=hm.one k hk
   exact⟨this.1,this.2.1,this.2.2.1,by have:=this.2.2.2;dsimp only;omega⟩
  ·simp at hk
   subst hk;exact⟨(by cases hq:(qaS t route).isSome with|true=>rfl|false=>exact absurd hq h2),h1.2,hm.lo,by dsimp only;omega⟩
 ·rw[List.pairwise_append]
  refine⟨hm.pair,List.pairwise_singleton _ _,fun p hp q hq=>?_⟩;simp at hq;subst hq;exact⟨(hm.one p hp).2.2.2,qdM.1 h3' p hp,met_false.1 h4' p hp⟩
structure Op4 where
 free:Bool
 route:Int
 train:Int
 no:Int
structure HasK (t:Tp3) (k:Lc3) (x:It3):Prop where
 may:mayB t x=true
 mem:k∈x.locks
theorem HasK.set {t:Tp3}{x:It3}{k:Lc3}(hk:HasK t k x){route train:Int}(h:(setE t x route train).2.2=0):HasK t k (setE t x route train).1/\k.no<(setE t x route train).2.1/\route≠k.route:=by
 have hs:=set_may h;rw[hs.1];exact⟨⟨hs.2.1,List.mem_append_left _ hk.mem⟩,((may_iff.1 hk.may).one k hk.mem).2.2.2,fun e=>qdM.1 hs.2.2.2 k hk.mem e.symm⟩
end
section
structure Sc3 where
 to_:Int
 timer:Int
structure Ma3 where
 ref:Int
 rev:Bool
 path:List St3
 sects:List Sc3
 gap:Int
def noMa:Ma3:=⟨0,false,[],[],0⟩
def qc3 (t:Tp3)(m:Ma3):Ps3:=
 match balF t m.ref with
 |some b=>⟨b.edge,b.at_,m.rev⟩
 |none=>⟨0,0,m.rev⟩
def qbG (t:Tp3)(m:Ma3):Int:=(onE t m.path (qc3 t m)).1
def qbt:Int->List Sc3->Int
 |n,[]=>n
 |_,s::r=>qbt s.to_ r
def endM (m:Ma3):Int:=qbt 0 m.sects
def secsB:Int->List Sc3->Bool
 |_,[]=>true
 |p,s::r=>decide (p<s.to_) &&(decide (s.to_<=100000000) &&(decide (1<=s.timer) &&(decide (s.timer<=1000) &&secsB s.to_ r)))
def qge (path:List St3)(s:St3):Bool:=
 match path with
 |[]=>false
 |x::_=>eqS x s
def mayM (t:Tp3)(m:Ma3):Bool:=
 decide (qaE t=0) &&((balF t m.ref).isSome &&(decide (m.path.length<=24) &&(decide (1<=m.sects.length) &&(decide (m.sects.length<=8) &&(decide (0<=m.gap) &&(decide (m.gap<=100000000) &&
  (qge m.path (stepP (qc3 t m)) &&(!qbs m.path &&(decide (lenE t m.path=0) &&(secsB 0 m.sects &&decide (endM m+m.gap<=sumT t m.path-qbG t m)))))))))))
structure MayM (t:Tp3) (m:Ma3):Prop where
 check:qaE t=0
 bal:(balF t m.ref).isSome=true
 few:m.path.length<=24
 one:1<=m.sects.length
 eight:m.sects.length<=8
 gap0:0<=m.gap
 gap1:m.gap<=100000000
 first:qge m.path (stepP (qc3 t m))=true
 once:qbs m.path=false
 len:lenE t m.path=0
 secs:secsB 0 m.sects=true
 fits:endM m+m.gap<=sumT t m.path-qbG t m
theorem qdW {t:Tp3}{m:Ma3}:mayM t m=true↔MayM t m:=by
 unfold mayM;simp only[Bool.and_eq_true,decide_eq_true_eq,Bool.not_eq_true'];exact⟨fun⟨a,b,c,d,e,f,g,h,i,j,k,l⟩=>⟨a,b,c,d,e,f,g,h,i,j,k,l⟩,fun⟨a,b,c,d,e,f,g,h,i,j,k,l⟩=>⟨a,b,c,d,e,f,g,h,i,j,k,l⟩⟩
theorem qfK {p:Int}{s:Sc3}{r:List Sc3}:secsB p (s::r)=true↔p<s.to_/\s.to_<=100000000/\1<=s.timer/\s.timer<=1000/\secsB s.to_ r=true:=by
 rw[secsB];simp only[Bool.and_eq_true,decide_eq_true_eq]
theorem secs_last {p:Int}{l:List Sc3}(h:secsB p l=true):p<=qbt p l:=by
 induction l generalizing p with
 |nil=>exact Int.le_refl _
 |cons s r ih=>
  have h1:=qfK.1 h;have h2:=ih h1.2.2.2.2;show p<=qbt s.to_ r
  omega
def qdJ (age:Int):Int->List Sc3->Int
 |n,[]=>n
 |n,s::r=>if age<s.timer then qdJ age s.to_ r else n
def reachM (m:Ma3)(age:Int):Int:=qdJ age 0 m.sects
end
section
def pathR (t:Tp3)(id:Int):List St3:=
 match qaS t id with
 |some r=>r.path
 |none=>[]
def wayC (t:Tp3)(l:List Lc3):List St3:=l.flatMap fun k=>pathR t k.route
def lastS (l:List St3):St3:=l.getLastD ⟨0,false⟩
def headS (l:List St3):St3:=l.headD ⟨0,false⟩
def metS (a b:List St3):Bool:=a.any fun x=>b.any fun y=>x.edge==y.edge
def okC (t:Tp3)(train:Int)(s:St3)(out:List Lc3)(k:Lc3):Bool:=
 (k.train==train &&(qaS t k.route).isSome) &&((if out.isEmpty=true then qb1 (pathR t k.route) s else mayT t (lastS (wayC t out)) (headS (pathR t k.route)) &&!metS (wayC t out) (pathR t k.route)) &&!(out.any fun x=>eqK x k))
def qb5 (t:Tp3)(l:List Lc3)(train:Int)(s:St3):Nat->List Lc3->List Lc3
 |0,out=>out
 |k+1,out=>
  match l.find? (okC t train s out)with
  |none=>out
  |some x=>qb5 t l train s k (out++[x])
def qc2 (t:Tp3)(l:List Lc3)(train:Int)(s:St3):List Lc3:=if qaE t=0 then qb5 t l train s 8 []else[]
structure StepC (t:Tp3) (l:List Lc3) (train:Int) (s:St3) (out:List Lc3) (x:Lc3):Prop where
 mem:x∈l
 train:x.train=train
 new:x∉out
 rt:(qaS t x.route).isSome=true
 first:out=[]->s∈pathR t x.route
 next:out≠[]->mayT t (lastS (wayC t out)) (headS (pathR t x.route))=true
 apart: ∀a∈wayC t out,∀b∈pathR t x.route,a.edge≠b.edge
inductive ChainP (t:Tp3) (l:List Lc3) (train:Int) (s:St3):List Lc3->Prop
 |nil:ChainP t l train s []
 |snoc {out:List Lc3} {x:Lc3} :ChainP t l train s out->StepC t l train s out x->ChainP t l train s (out++[x])
theorem any_eqK {out:List Lc3}{k:Lc3}:(out.any fun x=>eqK x k)=false↔k∉out:=by
 rw[List.any_eq_false]
 constructor
 ·intro h hk
  exact h k hk ((eqK_iff _ _).2 rfl)
 ·intro h x hx e
  exact h ((eqK_iff _ _).1 e▸hx)
theorem met_no {a b:List St3}:metS a b=false↔ ∀x∈a,∀y∈b,x.edge≠y.edge:=by
 unfold metS;rw[List.any_eq_false]
 constructor
 ·intro h x hx y hy e
  refine h x hx ?_;rw[List.any_eq_true];exact⟨y,hy,by simp[e]⟩
 ·intro h x hx e
  rw[List.any_eq_true]at e;obtain⟨y,hy,e⟩:=e;exact h x hx y hy (by simpa using e)
theorem okC_step {t:Tp3}{l:List Lc3}{train:Int}{s:St3}{out:List Lc3}{x:Lc3}(hx:x∈l)(h:okC t train s out x=true):StepC t l train s out x:=by
 unfold okC at h;simp only[Bool.and_eq_true,beq_iff_eq,Bool.not_eq_true']at h;obtain⟨⟨h1,h2⟩,h3,h4⟩:=h
 cases out with
 |nil=>
  exact⟨hx,h1,any_eqK.1 h4,h2,fun _=>(qc4 _ _).1 h3,fun h=>absurd rfl h,fun a ha=>by cases ha⟩
 |cons y r=>
  rw[if_neg (by simp),Bool.and_eq_true,Bool.not_eq_true']at h3;exact⟨hx,h1,any_eqK.1 h4,h2,(fun h=>by cases h),fun _=>h3.1,met_no.1 h3.2⟩
theorem chainGo_p {t:Tp3}{l:List Lc3}{train:Int}{s:St3}(k:Nat){out:List Lc3}(h:ChainP t l train s out):ChainP t l train s (qb5 t l train s k out)/\(qb5 t l train s k out).length<=out.length+k:=by
 induction k generalizing out with
 |zero=>exact⟨h,Nat.le_refl _⟩
 |succ k ih=>
  rw[qb5]
  cases hq:l.find? (okC t train s out)with
  |none=>exact⟨h,by show out.length<=out.length+(k+1);omega⟩
  |some x=>
   have h1:=ih (h.snoc (okC_step (List.mem_of_find?_eq_some hq) (by simpa using List.find?_some hq)));rw[List.length_append,List.length_singleton]at h1;exact⟨h1.1,by have:=h1.2;dsimp only;omega⟩
theorem chain_p (t:Tp3)(l:List Lc3)(train:Int)(s:St3):ChainP t l train s (qc2 t l train s)/\(qc2 t l train s).length<=8:=by
 unfold qc2;split
 ·have:=chainGo_p 8 (ChainP.nil (t:=t) (l:=l) (train:=train) (s:=s))
  exact⟨this.1,by simpa using this.2⟩
 ·exact⟨.nil,by simp⟩
theorem ChainP.at {t:Tp3}{l:List Lc3}{train:Int}{s:St3}{c:List Lc3}(h:ChainP t l train s c){i:Nat}{x:Lc3}(hx:c[i]?=some x):StepC t l train s (c.take i) x:=by
 induction h with
 |nil=>cases hx
 | @snoc out y hp hs ih=>
  by_cases hi:i<out.length
  ·rw[List.getElem?_append_left hi]at hx
   rw[List.take_append_of_le_length (by omega)];exact ih hx
  ·by_cases he:i=out.length
   ·subst he
    rw[List.getElem?_append_right (Nat.le_refl _),Nat.sub_self]at hx;injection hx with hx
    subst hx;rw[List.take_append_of_le_length (Nat.le_refl _),List.take_of_length_le (Nat.le_refl _)];exact hs
   ·rw[List.getElem?_eq_none (by rw[List.length_append,List.length_singleton];omega)]at hx
    cases hx
theorem qcG {t:Tp3}(hc:qaE t=0){id:Int}(h:(qaS t id).isSome=true): ∃r,qaS t id=some r/\pathR t id=r.path/\qbD t r=0:=by
 cases hr:qaS t id with
 |none=>rw[hr]at h;cases h
 |some r=>
  refine⟨r,rfl,by unfold pathR;rw[hr],?_⟩;obtain⟨i,hi⟩:=List.getElem?_of_mem (List.mem_of_find?_eq_some hr);exact(route_find (qaD hc).2.2 hi).1
end
section
def qaW (t:Tp3):Nat->St3->Int->List St3
 |0,s,_=>[s]
 |k+1,s,left=>
  if 0<left then
   (match qau t s with
   |[x]=>s::qaW t k x (left-lenAt t x)
   |_=>[s])
  else[s]
def goneL (t:Tp3)(p:Ps3)(n:Int):List St3:=qaW t 59 (stepP p) (n-qaB t p)
def intoP (t:Tp3)(p:Ps3):Int:=lenAt t (stepP p)-qaB t p
def qaM (t:Tp3)(p:Ps3)(n:Int):List Sn3×Int:=if(walkE t p n).2=0 then overE t (goneL t p n) (intoP t p) (intoP t p+n)else([],(walkE t p n).2)
theorem gone_head (t:Tp3)(k:Nat)(s:St3)(left:Int): ∃r,qaW t k s left=s::r:=by
 cases k with
 |zero=>exact⟨[],rfl⟩
 |succ k=>
  rw[qaW];split
  ·split
   ·exact⟨_,rfl⟩
   ·exact⟨[],rfl⟩
  ·exact⟨[],rfl⟩
structure GoneP (t:Tp3) (p x:Ps3) (n:Int) (g:List St3):Prop where
 split: ∃pre,g=pre++[stepP x]/\sumT t pre+intoP t x=intoP t p+n
 head: ∃r,g=stepP p::r
 way:wayB t g=true
 edges: ∀a∈g,edgeB t a.edge=true
 on:onB t x=true
theorem gone_walk {t:Tp3}(ht:qav t=true){k j:Nat}(hk:k<=j){p x:Ps3}{n:Int}(hp:onB t p=true)(hn:0<=n)(h:walkF t k p n=(x,0)):GoneP t p x n (qaW t j (stepP p) (n-qaB t p))/\(qaW t j (stepP p) (n-qaB t p)).length<=k+1:=by
 induction k generalizing j p n with
 |zero=>
  rcases walk_cases t 0 p n with⟨h0,h1⟩|⟨_,⟨e,he,h3,_⟩|⟨s,i,hi,_⟩⟩
  ·rw[h1]at h
   injection h with h _
   subst h;have e1:qaW t j (stepP p) (n-qaB t p)=[stepP p]:=by
    cases j with
    |zero=>rfl
    |succ j=>rw[qaW,if_neg (by omega)]
   rw[e1];refine⟨⟨⟨[],by rw[qcJ];rfl,?_⟩,⟨[],rfl⟩,rfl,fun a ha=>?_,moved_on hp hn h0⟩,by simp⟩
   ·unfold intoP
    rw[qcJ,qbS];show 0+(lenAt t (stepP p)-(qaB t p-n))=_
    omega
   ·rw[List.mem_singleton]at ha
    subst ha;exact(qbh.1 hp).1
  ·rw[he]at h
   have h:e=0:=congrArg Prod.snd h;omega
  ·omega
 |succ k ih=>
  rcases walk_cases t (k+1) p n with⟨h0,h1⟩|⟨h0,⟨e,he,h3,_⟩|⟨s,i,hi,hs,hw⟩⟩
  ·rw[h1]at h
   injection h with h _
   subst h;have e1:qaW t j (stepP p) (n-qaB t p)=[stepP p]:=by
    cases j with
    |zero=>rfl
    |succ j=>rw[qaW,if_neg (by omega)]
   rw[e1];refine⟨⟨⟨[],by rw[qcJ];rfl,?_⟩,⟨[],rfl⟩,rfl,fun a ha=>?_,moved_on hp hn h0⟩,by simp⟩
   ·unfold intoP
    rw[qcJ,qbS];show 0+(lenAt t (stepP p)-(qaB t p-n))=_
    omega
   ·rw[List.mem_singleton]at ha
    subst ha;exact(qbh.1 hp).1
  ·rw[he]at h
   have h:e=0:=congrArg Prod.snd h;omega
  ·obtain rfl:k=i:=by omega
   rw[hw]at h;have hm:s∈qau t (stepP p):=by rw[hs];exact List.mem_singleton.2 rfl
   have ha:=qbd.1 hm;obtain⟨j,rfl⟩: ∃j',j=j'+1:=⟨j-1,by omega⟩
   have h2:=ih (j:=j) (by omega) (begin_on ht ha.2.1) (by omega) h;rw[qcI,qbR]at h2;have e1:qaW t (j+1) (stepP p) (n-qaB t p)=stepP p::qaW t j s (n-qaB t p-lenAt t s):=by
    rw[qaW,if_pos (by omega),hs]
   rw[e1];obtain⟨⟨⟨pre,g1,g2⟩,⟨r,g3⟩,g4,g5,g6⟩,g7⟩:=h2;refine⟨⟨⟨stepP p::pre,by rw[g1];rfl,?_⟩,⟨_,rfl⟩,?_,fun a hq=>?_,g6⟩,by rw[List.length_cons];omega⟩
   ·have g8:intoP t (qbo t s)=0:=by unfold intoP;rw[qcI,qbR];omega
    rw[g8]at g2;show lenAt t (stepP p)+sumT t pre+intoP t x=intoP t p+n
    unfold intoP at g2⊢;omega
   ·rw[qcI]at g3
    rw[g3]at g4⊢;rw[wayB,ha.2.2,g4]
    rfl
   ·rcases List.mem_cons.1 hq with rfl|hq
    ·exact ha.1
    ·exact g5 a hq
theorem gone_ok {t:Tp3}{p x:Ps3}{n:Int}(h:walkE t p n=(x,0)):qaE t=0/\qa4 t p=true/\0<=n/\n<=1099511627776/\GoneP t p x n (goneL t p n)/\(goneL t p n).length<=41:=by
 unfold walkE at h;split at h
 ·rename_i hh
  have hr:=qaO.1 hh.1;have:=gone_walk (qaD hr.1).1 (k:=40) (j:=59) (by omega) hr.2 hh.2.1 h;exact⟨hr.1,hh.1,hh.2.1,hh.2.2,this.1,this.2⟩
 ·have h:(1:Int)=0:=congrArg Prod.snd h
  exact absurd h (by decide)
/-! ## As many as were gone over -/
theorem cntX_le {p q:Int->Bool}(n:Nat):cntX n (fun x=>p x||q x)<=cntX n p+cntX n q:=by
 induction n with
 |zero=>exact Nat.le_refl _
 |succ n ih=>
  rw[cntX,cntX,cntX]
  cases hp:p n<;>cases hq:q n<;>simp<;>omega
theorem cntE_le {p q:Int->Int->Bool}(n m:Nat):cntE n m (fun e x=>p e x||q e x)<=cntE n m p+cntE n m q:=by
 induction m with
 |zero=>exact Nat.le_refl _
 |succ m ih=>
  rw[cntE,cntE,cntE];have:=cntX_le (p:=p m) (q:=q m) n;omega
theorem cnt_le_sum {l:List Sn3}(n m:Nat)(h: ∀s∈l,okN s)(hn: ∀s∈l,s.hi<=n)(hm: ∀s∈l,s.edge<m):(cntE n m (hasL l):Int)<=sumN l:=by
 induction l with
 |nil=>rw[cntE_none (p:=hasL []) n m fun e x=>rfl];exact Int.le_refl _
 |cons s r ih=>
  have e0:hasL (s::r)=fun e x=>hasS s e x||hasL r e x:=funext fun e=>funext fun x=>qbf s r e x;have h1:=cntE_le (p:=hasS s) (q:=hasL r) n m;have h2:=cntE_span n m (h s (List.mem_cons_self ..)) (hn s (List.mem_cons_self ..));rw[if_pos (hm s (List.mem_cons_self ..))]at h2;have h3:=ih (fun t ht=>h t (List.mem_cons_of_mem _ ht)) (fun t ht=>hn t (List.mem_cons_of_mem _ ht)) fun t ht=>hm t (List.mem_cons_of_mem _ ht);rw[e0];show _<=s.hi-s.lo+sumN r
  omega
theorem total_le {l:List Sn3}(h: ∀s∈l,okN s):qcu l<=sumN l:=by
 obtain⟨m,hm⟩:=edge_top (l++normL l);have hd:=qel (qbi l);have e0:hasL (normL l)=hasL l:=funext fun e=>funext fun x=>qcs l e x;unfold qcu;rw[sum_cnt 1000000 m hd (fun s hs=>(hd.1 s hs).2.2.2) fun s hs=>hm s (List.mem_append_right _ hs),e0];exact cnt_le_sum 1000000 m h (fun s hs=>(h s hs).2.2.2) fun s hs=>hm s (List.mem_append_left _ hs)
theorem ov_ok {t:Tp3}{fr tz:Int}{path:List St3}{at_:Int}(hp: ∀s∈path,0<=s.edge/\lenAt t s<=1000000): ∀u∈ovGo t fr tz path at_,okN u:=by
 induction path generalizing at_ with
 |nil=>intro u hu;cases hu
 |cons s r ih=>
  have h1:=hp s (List.mem_cons_self ..);intro u hu;rw[ovGo]at hu
  rcases List.mem_append.1 hu with hu|hu
  ·exact part_ok h1.1 h1.2 u hu
  ·exact ih (fun v hv=>hp v (List.mem_cons_of_mem _ hv)) u hu
theorem qf1 {t:Tp3}{p:Ps3}{n:Int}(h:(qaM t p n).2=0):qcu (qaM t p n).1<=n:=by
 unfold qaM at h⊢;split
 ·rename_i hw
  rw[if_pos hw]at h;obtain⟨h1,h2,h3,h4,h5,h6⟩:=over_zero h;have hn:=way_nums h1 h2;have hs:=ov_sum (t:=t) (fr:=intoP t p) (tz:=intoP t p+n) (path:=goneL t p n) (at_:=0) h4 fun s hs=>(hn s hs).2.1;have ht:=total_le (ov_ok (t:=t) (fr:=intoP t p) (tz:=intoP t p+n) (path:=goneL t p n) (at_:=0) fun s hs=>⟨(hn s hs).1,(hn s hs).2.2⟩);rw[h6];have e1:qcu (normL (ovGo t (intoP t p) (intoP t p+n) (goneL t p n) 0))=qcu (ovGo t (intoP t p) (intoP t p+n) (goneL t p n) 0):=by
   unfold qcu;rw[qfs (qbi _)]
  rw[e1];have:=hs.1;omega
 ·rename_i hw
  rw[if_neg hw]at h;exact absurd h hw
/-! ## Where the points of a way lie -/
theorem ov_at17 {t:Tp3}{fr tz:Int}{path:List St3}{at_ e x:Int}(hp: ∀s∈path,0<=s.edge/\lenAt t s<=1000000)(h:hasL (ovGo t fr tz path at_) e x=true): ∃pre s post,path=pre++s::post/\s.edge=e/\0<=x/\x<lenAt t s/\fr<at_+sumT t pre+lenAt t s:=by
 induction path generalizing at_ with
 |nil=>cases h
 |cons s r ih=>
  have h1:=hp s (List.mem_cons_self ..);rw[ovGo,qdr,Bool.or_eq_true,part_has h1.1 h1.2,Bool.and_eq_true,decide_eq_true_eq,decide_eq_true_eq]at h
  rcases h with⟨h2,h3⟩|h
  ·refine⟨[],s,r,rfl,h2.1,h2.2.1,h2.2.2,?_⟩
   show fr<at_+0+lenAt t s
   have h4:posN s (lenAt t s) x<lenAt t s:=by
    unfold posN;split<;>omega
   omega
  ·obtain⟨pre,u,post,g1,g2,g3,g4,g5⟩:=ih (fun v hv=>hp v (List.mem_cons_of_mem _ hv)) h
   refine⟨s::pre,u,post,by rw[g1];rfl,g2,g3,g4,?_⟩;show fr<at_+(lenAt t s+sumT t pre)+lenAt t u
   omega
theorem ov_full {t:Tp3}{path:List St3}{at_ fr tz x:Int}{s:St3}(hs:s∈path)(h0:0<=x)(hx:x<lenAt t s)(hf:fr<=at_)(hz:at_+sumT t path<=tz)(hp: ∀s∈path,0<=s.edge/\1<=lenAt t s/\lenAt t s<=1000000):hasL (ovGo t fr tz path at_) s.edge x=true:=by
 induction path generalizing at_ with
 |nil=>cases hs
 |cons u r ih=>
  have h1:=hp u (List.mem_cons_self ..);have hr: ∀s∈r,0<=s.edge/\1<=lenAt t s/\lenAt t s<=1000000:=fun v hv=>hp v (List.mem_cons_of_mem _ hv);have h2:0<=sumT t r:=(ov_sum (t:=t) (fr:=0) (tz:=0) (path:=r) (at_:=0) (Int.le_refl _) fun v hv=>(hr v hv).2.1).2;have hz2:at_+(lenAt t u+sumT t r)<=tz:=hz;rw[ovGo,qdr,Bool.or_eq_true,part_has h1.1 h1.2.2,Bool.and_eq_true,decide_eq_true_eq,decide_eq_true_eq]
  rcases List.mem_cons.1 hs with rfl|hs
  ·have h4:0<=posN s (lenAt t s) x/\posN s (lenAt t s) x<lenAt t s:=by
    unfold posN;split<;>omega
   exact .inl ⟨⟨rfl,h0,hx⟩,by omega,by omega⟩
  ·exact .inr (ih hs (by omega) (by omega) hr)
end
section
def qfS (t:Tp3)(id:Int):Int:=
 match qaS t id with
 |some r=>r.timer
 |none=>0
def gapR (t:Tp3)(id:Int):Int:=
 match qaS t id with
 |some r=>r.gap
 |none=>0
def qeA (path:List St3)(s:St3):List St3:=(path.dropWhile fun x=>!eqS x s).drop 1
def qee (t:Tp3)(b0:Int):List St3->List Lc3->List Sc3
 |_,[]=>[]
 |path,k::r=>⟨sumT t (path++pathR t k.route)-b0,qfS t k.route⟩::qee t b0 (path++pathR t k.route) r
def rawB (t:Tp3)(b0:Int)(g:List St3)(s:St3):List Lc3->List Sc3
 |[]=>[]
 |k::r=>⟨sumT t (g++qeA (pathR t k.route) s)-b0,qfS t k.route⟩::qee t b0 (g++qeA (pathR t k.route) s) r
def fullB (t:Tp3)(g:List St3)(s:St3):List Lc3->List St3
 |[]=>g
 |k::r=>(g++qeA (pathR t k.route) s)++wayC t r
def zeroS:Sc3:=⟨0,0⟩
def lessB (g:Int)(l:List Sc3):List Sc3:=l.dropLast++[⟨(l.getLastD zeroS).to_-g,(l.getLastD zeroS).timer⟩]
def badB (n g:Int)(l:List Sc3):Bool:=decide ((l.getLastD zeroS).to_-g<=n)||(match l.dropLast.getLast? with
 |none=>false
 |some q=>decide ((l.getLastD zeroS).to_-g<=q.to_))
def qaZ (l:List Sc3):List Sc3:=
 match l with
 |[]=>[]
 |s::r=>if s.to_=0 then r else s::r
def gapC (t:Tp3)(c:List Lc3):Int:=
 match c.getLast? with
 |none=>0
 |some k=>gapR t k.route
def qdQ (t:Tp3)(l:List Lc3)(train ref:Int)(rev:Bool)(n:Int):Ma3×Int:=
 if(locE t ref rev n).2≠0 then(noMa,(locE t ref rev n).2)
 else
  let s:=stepP (locE t ref rev n).1
  let c:=qc2 t l train s
  let p:=qc3 t ⟨ref,rev,[],[],0⟩
  let g:=goneL t p n
  if c.isEmpty=true then(noMa,4)
  else if(decide (24<(fullB t g s c).length)||qbs (fullB t g s c))=true then(noMa,2)
  else if badB n (gapC t c) (rawB t (intoP t p) g s c)=true then(noMa,141)
  else(⟨ref,rev,fullB t g s c,qaZ (lessB (gapC t c) (rawB t (intoP t p) g s c)),gapC t c⟩,0)
/-! ## Lists -/
theorem wayC_app (t:Tp3)(a b:List Lc3):wayC t (a++b)=wayC t a++wayC t b:=List.flatMap_append
theorem wayC_one (t:Tp3)(k:Lc3):wayC t [k]=pathR t k.route:=by simp[wayC]
/-! ## Its way -/
theorem qgb {t:Tp3}(hc:qaE t=0){c:List Lc3}(h: ∀x∈c,(qaS t x.route).isSome=true): ∀a∈wayC t c,edgeB t a.edge=true:=by
 intro a ha;obtain⟨k,hk,hka⟩:=List.mem_flatMap.1 ha;obtain⟨q,_,q2,q3⟩:=qcG hc (h k hk);rw[q2]at hka;exact(qd6 q3).2.2.2.1 a hka
/-! ## Its sections -/
theorem qfo (p:Int)(l:List Sc3)(x:Sc3):qbt p (l++[x])=x.to_:=by
 induction l generalizing p with
 |nil=>rfl
 |cons s r ih=>exact ih s.to_
theorem last_get {p:Int}{l:List Sc3}{q:Sc3}(h:l.getLast?=some q):qbt p l=q.to_:=by
 have hne:l≠[]:=by rintro rfl;cases h
 rw[List.getLast?_eq_some_getLast hne]at h;injection h with h
 rw[<-List.dropLast_concat_getLast hne,h];exact qfo _ _ _
theorem fromOne_cons (s:Sc3)(r:List Sc3):qaZ (s::r)=if s.to_=0 then r else s::r:=rfl
end
section
open Go.RowKit
def qaU (s:Int):Int:=if s=0 then 1 else if s=1 then 10 else if s=2 then 100 else 0
def dmOf (n s:Int):Int×Int:=if qaU s=0 then(0,1)else if n<0\/32766<n then(0,7)else(n*qaU s,0)
def wholeOf (dm u:Int)(up:Bool):Int:=dm/u+if up=true/\dm %u≠0 then 1 else 0
def qaY (dm s:Int)(up:Bool):Int×Int:=
 if qaU s=0 then(0,1)else if dm<0\/1099511627776<dm then(0,7)else if 32766<wholeOf dm (qaU s) up then(0,7)else(wholeOf dm (qaU s) up,0)
def qdP (dm:Int):Int:=if(qaY dm 0 true).2=0 then 0 else if(qaY dm 1 true).2=0 then 1 else if(qaY dm 2 true).2=0 then 2 else -1
def pair (x:Int×Int):Value:= .tuple #[.int .i64 x.1,.int .i64 x.2]
theorem qcL (s:Int):qaU s=0\/qaU s=1\/qaU s=10\/qaU s=100:=by
 unfold qaU;split
 ·omega
 ·split
  ·omega
  ·split<;>omega
theorem unit_any (s:Int)(w:World):
  Calls Tryz.prog 28 #[.int .i64 s] w fun e w'=>e= .returned (.int .i64 (qaU s))/\w=w':=by
 by_cases h0:s=0
 ·subst h0
  rw[show qaU 0=1 from rfl];go_enter Tryz.func28,Tryz.ntmps28;go_wp2;go_ret
  exact⟨rfl,rfl⟩
 ·by_cases h1:s=1
  ·subst h1
   rw[show qaU 1=10 from rfl];go_enter Tryz.func28,Tryz.ntmps28;go_wp2;go_ret
   exact⟨rfl,rfl⟩
  ·by_cases h2:s=2
   ·subst h2
    rw[show qaU 2=100 from rfl];go_enter Tryz.func28,Tryz.ntmps28;go_wp2;go_ret
    exact⟨rfl,rfl⟩
   ·rw[show qaU s=0 by simp[qaU,h0,h1,h2]]
    go_enter Tryz.func28,Tryz.ntmps28;go_wp2;go_ret
    exact⟨rfl,rfl⟩
end
end Go.Proofs.YtahadmeilajdgaaGreatDoor
