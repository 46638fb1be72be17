/-
  Our own text, joined.
-/
import Derived.Test.YtahadmeilajdgaaGreatDoorRows
import Derived.WalkKit
import Derived.WalkSpells
import Derived.WalkLawsBesides
import Derived.Deep.Draws
import Derived.Laws.Rows
import Derived.Laws.Tables
import Derived.Maps.AppendAt
import Derived.OwnWalk
import Derived.Laws.AppendOwnNone
import Derived.Lib.Hide
import Derived.Deep.RegionHeld3
import Derived.Laws.ResultCell
import Derived.Laws.StructEq
import Derived.ChangeKeysEq
import Derived.BigFrame
import Derived.Deep.DeepCutAuto
import Derived.Great.BuildSlice
import Derived.BigQuiet
import Derived.IntWalk
namespace Go.Proofs.YtahadmeilajdgaaGreatDoor
set_option maxRecDepth 100000
section
open Go.RowKit
def Has (w:World)(g:Nat)(t:TypeId)(cs:Array Value):Prop:=w.heap[g]?=some (.cells cs t (0,0))
section
variable {w w':World} {g:Nat} {t:TypeId} {cs:Array Value}
theorem Has.lt (h:Has w g t cs):g<w.heap.size:=(Array.getElem?_eq_some_iff.1 h).1
theorem Has.cell (h:Has w g t cs)(i:Nat):w.cell? ⟨g,i,none⟩=cs[i]?:=cell_of_row w g i cs t (0,0) h
theorem Has.thaw (h:Has w g t cs)(i:Nat):w.frozen? ⟨g,i,none⟩=false:=by unfold Has at h;simp[World.frozen?,h]
theorem Has.made (w:World)(t:TypeId)(cs:Array Value):Has (w.alloc (.cells cs t)) w.heap.size t cs:=heap_alloc_new w _
theorem Has.draw (h:Has w g t cs):Has w.drew g t cs:=h
theorem Has.draws (h:Has w g t cs)(n:Nat):Has (w.drewN n) g t cs:=h
theorem Has.beside (h:Has w g t cs)(o:Obj):Has (w.alloc o) g t cs:=by
 unfold Has;rw[Below.heap_alloc w o g h.lt];exact h
theorem Has.stored (h:Has w g t cs)(i:Nat)(u:Value):Has (w.setCell ⟨g,i,none⟩ u) g t (cs.setIfInBounds i u):=by
 unfold Has at h⊢;simp[World.setCell,Array.getElem?_modify,h]
theorem Has.apart (h:Has w g t cs){p:Addr}(hp:g≠p.block)(u:Value):Has (w.setCell p u) g t cs:=by
 unfold Has;rw[Below.heap_setCell w p u g hp];exact h
theorem Has.under {B:Nat}(h:Has w g t cs)(hb:Below B w w')(hg:g<B):Has w' g t cs:=by
 unfold Has;rw[hb.block g hg];exact h
theorem Has.grow {row:Option Nat}(h:Has w g t cs)(hb:w.grownBy w' row)(hg:some g≠row):Has w' g t cs:=by
 unfold Has;rw[hb.block g h.lt hg];exact h
theorem Has.other {g':Nat}{t':TypeId}{cs':Array Value}(h:Has w g t cs)(h':Has w g' t' cs')(hne:t≠t'):g≠g':=by
 intro e;subst e;unfold Has at h h';rw[h]at h';simp only[Option.some.injEq,Obj.cells.injEq]at h';exact hne h'.2.1
end
/-! Only block g has turned, and what is new. -/
theorem qbB (w:World)(row:Option Nat):w.grownBy w row:=⟨rfl,rfl,rfl,Nat.le_refl _,fun _ _ _=>rfl⟩
theorem qap {a b c:World}{row:Option Nat}(h:a.grownBy b row)(k:b.grownBy c row):a.grownBy c row:=
 ⟨k.os.trans h.os,k.tape.trans h.tape,k.output.trans h.output,Nat.le_trans h.size k.size,fun i hi hne=>(k.block i (Nat.lt_of_lt_of_le hi h.size) hne).trans (h.block i hi hne)⟩
theorem only_draw {a b:World}{row:Option Nat}(h:a.grownBy b row):a.grownBy b.drew row:=⟨h.os,h.tape,h.output,h.size,h.block⟩
theorem qb9 {a b:World}{g:Nat}(h:a.grownBy b (some g)){p:Addr}(hp:p.block=g)(u:Value):a.grownBy (b.setCell p u) (some g):=
 qap h ⟨rfl,rfl,rfl,by simp[World.setCell],fun i _ hne=>Below.heap_setCell b p u i (fun e=>hne (by rw[e,hp]))⟩
theorem qaL {a b:World}{B:Nat}(h:Below B a b)(hB:a.heap.size<=B)(row:Option Nat):a.grownBy b row:=
 ⟨h.os,h.tape,h.output,h.size,fun i hi _=>h.block i (Nat.lt_of_lt_of_le hi hB)⟩
theorem qan {a b w:World}{B g:Nat}(h:Below B a b)(k:b.grownBy w (some g))(hB:B<=b.heap.size)(hg:B<=g):Below B a w:=
 h.grown k hB (fun x hx=>by cases hx;exact hg)
theorem qaa {B:Nat}{a w:World}(h:Below B a w)(n:Nat):Below B a (w.drewN n):=⟨h.os,h.tape,h.output,h.size,h.block⟩
theorem qac {B g:Nat}{a w:World}(h:Below B a w)(hg:B<=g)(cs:Array Value):Below B a (w.setRow g cs):=
 ⟨h.os,h.tape,h.output,by simpa using h.size,fun k hk=>by rw[setRow_other w g k cs (by omega)];exact h.block k hk⟩
theorem qa0 {w:World}{base:Nat}{e t:TypeId}{size n g:Nat}{v:Value}{xs:List Value}{cs:Array Value}(h:w.ownsRow base e size v n xs)(hg:Has w g t cs)(hne:e≠t):v.ownBlock≠some g:=by
 rcases h.2 with⟨rfl,_⟩|⟨g',cap,cur,rfl,_,hh,_⟩
 ·simp[Value.ownBlock]
 ·intro he
  have e':g'=g:=by simpa[Value.ownBlock]using he
  subst e';exact Has.other (t:=e) hh hg hne rfl
theorem qeg {w w':World}{base:Nat}{e:TypeId}{size n g:Nat}{v:Value}{xs:List Value}(h:w.ownsRow base e size v n xs)(hg:w.grownBy w' (some g))(hne:v.ownBlock≠some g):w'.ownsRow base e size v n xs:=
 h.kept hg (.inr hne)
theorem qdj {w w':World}{base B:Nat}{e:TypeId}{size n:Nat}{v:Value}{xs:List Value}(h:w.ownsRow base e size v n xs)(hb:Below B w w')(hB:w.heap.size<=B):w'.ownsRow base e size v n xs:=by
 refine h.kept (row:=none) (qaL hb hB none) ?_
 cases v.ownBlock with
 |none=>exact .inl rfl
 |some k=>exact .inr (by simp)
theorem qdi {w:World}{base:Nat}{e:TypeId}{size n:Nat}{v:Value}{xs:List Value}(h:w.ownsRow base e size v n xs): ∃A c,v= .slice A n c:=by
 rcases h.2 with⟨rfl,rfl⟩|⟨g,cap,_,rfl,_⟩
 ·exact⟨none,0,rfl⟩
 ·exact⟨_,_,rfl⟩
theorem qas {a w w':World}{B:Nat}{row:Option Nat}{base:Nat}{e:TypeId}{size n:Nat}{v:Value}{xs:List Value}(h:Below B a w)(hB:B<=w.heap.size)(ho:w.ownsRow base e size v n xs)(hbase:B<=base)(hr:row=v.ownBlock)(hg:w.grownBy w' row):Below B a w':=
 h.grown hg hB (fun k hk=>Nat.le_trans hbase (ho.lt k (by rw[<-hr,hk])).1)
theorem qaZ {P:Program}{ops:Array Oper}{rest:List Oper}{o:Oper}{a:Act}{w:World}{Q:Exit->Act->World->Prop}(hgd:o.guard=none)(s x:Operand)(t:TypeId)
  (ho:o.op= .call {callee:= .builtin .append,args:=#[s,x],argTypes:=#[t,t]})
  (base:Nat) (e:TypeId) (z:Value) (size bytes:Nat) (ht:P.underlying t=some (.slice e)) (hinfo:(P.info? e).map (fun i=>(i.zero,i.size,i.bytes))=some (some z,size,bytes))
  (hzs:z.cells.size=size) (hsz:0<size)
  (A:Option Addr) (n c:Nat) (xs:List Value) (hs:a.eval s= .slice A n c) (hown:Hid (w.ownsRow base e size (.slice A n c) n xs))
  (ad:Addr) (m cc:Nat) (news:List Value) (hx:a.eval x= .slice (some ad) m cc) (hl:Hid (news.length=m*size)) (hnews:Hid (∀j u,news[j]?=some u->w.cell? (ad.add j)=some u)) (h1:Hid (∀u∈news,u.oneCell'=true))
  (hb:Hid (n+m<=maxLen/\(n+m)*bytes<=140737488355328/\base<=w.heap.size))
  (h: ∀A' c' w',Hid (w'.ownsRow base e size (.slice A' (n+m) c') (n+m) (xs++news))->Hid (w.grownBy w' (Value.ownBlock (.slice A n c)))->
   wpList P ops Q rest (a.put o.dst (.slice A' (n+m) c')) w'):wpList P ops Q (o::rest) a w:=by
 obtain⟨i,hi,hz,hsize,hby⟩:=info_parts hinfo;refine wpList_append_own_at w hgd s x t ho base e i z size bytes ht hi hz hsize hby hzs hsz (.slice A n c) n xs hs hown.out ad m cc news hx hl.out hnews.out h1.out hb.out.1 hb.out.2.1 hb.out.2.2 ?_;intro v' w' h2 h3 _ _;obtain⟨A',c',rfl⟩:=qdi h2;exact h A' c' w' h2 h3
/-! A slice value that holds the cells vs (an element takes size cells), wherever it lies. -/
def Sl (w:World)(size:Nat)(A:Option Addr)(m c:Nat)(vs:List Value):Prop:=
 vs.length=m*size/\(A=none->m=0/\c=0)/\ ∀ad,A=some ad-> ∀j u,vs[j]?=some u->w.cell? (ad.add j)=some u
theorem qcv (w:World)(size:Nat):Sl w size none 0 0 []:=⟨by simp,fun _=>⟨rfl,rfl⟩,fun _ h=>by cases h⟩
theorem qag {w:World}{a:Addr}{v:Value}(h:w.cell? a=some v):a.block<w.heap.size:=by
 rcases Nat.lt_or_ge a.block w.heap.size with h1|h1
 ·exact h1
 ·exfalso
  have hn:w.heap[a.block]?=none:=Array.getElem?_eq_none h1;simp[World.cell?,hn]at h
theorem Sl.under {w w':World}{size:Nat}{A:Option Addr}{m c:Nat}{vs:List Value}(h:Sl w size A m c vs)(hb:Below w.heap.size w w'):Sl w' size A m c vs:=
 ⟨h.1,h.2.1,fun ad ha j u hu=>by have h0:=h.2.2 ad ha j u hu;rw[hb.cell (qag h0)];exact h0⟩
theorem Sl.beside {w:World}{size:Nat}{A:Option Addr}{m c:Nat}{vs:List Value}(h:Sl w size A m c vs)(o:Obj):Sl (w.alloc o) size A m c vs:=
 h.under ((Below.refl _ _).alloc (Nat.le_refl _) o)
theorem Sl.draws {w:World}{size:Nat}{A:Option Addr}{m c:Nat}{vs:List Value}(h:Sl w size A m c vs)(n:Nat):Sl (w.drewN n) size A m c vs:=h
theorem Sl.at_ {w:World}{size:Nat}{A:Option Addr}{m c:Nat}{vs:List Value}(h:Sl w size A m c vs){j:Nat}{u:Value}(hj:vs[j]?=some u): ∃b off,A=some ⟨b,off,none⟩/\w.cell? ⟨b,off+j,none⟩=some u:=by
 cases A with
 |none=>
  have:=h.1;rw[(h.2.1 rfl).1]at this;have e:vs=[]:=List.eq_nil_of_length_eq_zero (by simpa using this);subst e;simp at hj
 |some a=>
  obtain⟨b,off,spot⟩:=a;have h0:=h.2.2 _ rfl j u hj;have hlt:0<vs.length:=by have:=(List.getElem?_eq_some_iff.1 hj).1;omega
  have h00:=h.2.2 _ rfl 0 _ (List.getElem?_eq_getElem hlt);have hspot:spot=none:=by simpa[Addr.add]using World.cell?_spot h00
  subst hspot;refine⟨b,off,rfl,?_⟩;rw[<-WideShapes.add_plain];exact h0
theorem Sl.of_own {w:World}{base:Nat}{e:TypeId}{size:Nat}{A:Option Addr}{m c:Nat}{vs:List Value}(h:w.ownsRow base e size (.slice A m c) m vs):Sl w size A m c vs:=by
 refine⟨h.1,fun ha=>?_,fun ad ha j u hu=>?_⟩
 ·subst ha
  rcases h.2 with⟨e1,e2⟩|⟨g,cap,cur,e1,_⟩
  ·injection e1 with _ _ e3
   exact⟨e2,e3⟩
  ·injection e1 with e1
   cases e1
 ·subst ha
  rcases h.2 with⟨e1,_⟩|⟨g,cap,cur,e1,_⟩
  ·injection e1 with e1
   cases e1
  ·injection e1 with e1
   injection e1 with e1
   subst e1;exact h.cells rfl j u hu
theorem qaP {P:Program}{ops:Array Oper}{rest:List Oper}{o:Oper}{a:Act}{w:World}{Q:Exit->Act->World->Prop}(hgd:o.guard=none)(s x:Operand)(t:TypeId)
  (ho:o.op= .call {callee:= .builtin .append,args:=#[s,x],argTypes:=#[t,t]})
  (base:Nat) (e:TypeId) (z:Value) (size bytes:Nat) (ht:P.underlying t=some (.slice e)) (hinfo:(P.info? e).map (fun i=>(i.zero,i.size,i.bytes))=some (some z,size,bytes))
  (hzs:z.cells.size=size) (hsz:0<size)
  (A:Option Addr) (n c:Nat) (xs:List Value) (hs:a.eval s= .slice A n c) (hown:Hid (w.ownsRow base e size (.slice A n c) n xs))
  (B:Option Addr) (m cc:Nat) (news:List Value) (hx:a.eval x= .slice B m cc) (hl:Hid (Sl w size B m cc news)) (h1:Hid (∀u∈news,u.oneCell'=true))
  (hb:Hid (n+m<=maxLen/\(n+m)*bytes<=140737488355328/\base<=w.heap.size))
  (h: ∀A' c' w',Hid (w'.ownsRow base e size (.slice A' (n+m) c') (n+m) (xs++news))->Hid (w.grownBy w' (Value.ownBlock (.slice A n c)))->
   wpList P ops Q rest (a.put o.dst (.slice A' (n+m) c')) w'):wpList P ops Q (o::rest) a w:=by
 cases B with
 |none=>
  obtain⟨rfl,rfl⟩:=hl.out.2.1 rfl;have e0:news=[]:=List.eq_nil_of_length_eq_zero (by simpa using hl.out.1);subst e0;obtain⟨i,hi,_⟩:=info_parts hinfo;exact wpList_append_own_none hgd s x t ho base e i size ht hi (.slice A n c) n xs hs hown.out hx (h A c w (show Hid _ by simpa using hown) (qbB _ _))
 |some ad=>
  exact qaZ hgd s x t ho base e z size bytes ht hinfo hzs hsz A n c xs hs hown ad m cc news hx hl.out.1 (hl.out.2.2 ad rfl) h1 hb h
theorem step_push {P:Program}{ops:Array Oper}{o:Oper}{a:Act}{w:World}{K:Act->World->Prop}{Q:Exit->Act->World->Prop}{E:Prop}(hgd:o.guard=none)(s x:Operand)(t:TypeId)
  (ho:o.op= .call {callee:= .builtin .append,args:=#[s,x],argTypes:=#[t,t]})
  (base:Nat) (e:TypeId) (z:Value) (size bytes:Nat) (ht:P.underlying t=some (.slice e)) (hinfo:(P.info? e).map (fun i=>(i.zero,i.size,i.bytes))=some (some z,size,bytes))
  (hzs:z.cells.size=size) (hsz:0<size)
  (A:Option Addr) (n c:Nat) (xs:List Value) (hs:a.eval s= .slice A n c) (hown:Hid (w.ownsRow base e size (.slice A n c) n xs))
  (ad:Addr) (m cc:Nat) (news:List Value) (hx:a.eval x= .slice (some ad) m cc) (hl:Hid (news.length=m*size)) (hnews:Hid (∀j u,news[j]?=some u->w.cell? (ad.add j)=some u)) (h1:Hid (∀u∈news,u.oneCell'=true))
  (hb:Hid (n+m<=maxLen/\(n+m)*bytes<=140737488355328/\base<=w.heap.size))
  (h: ∀A' c' w',Hid (w'.ownsRow base e size (.slice A' (n+m) c') (n+m) (xs++news))->Hid (w.grownBy w' (Value.ownBlock (.slice A n c)))->
   K (a.put o.dst (.slice A' (n+m) c')) w'):if Region.wanted o (yielded ops a.tmps)=true then Oper.wp P o a w K Q else E:=by
 have hw:Region.wanted o (yielded ops a.tmps)=true:=by simp[Region.wanted,hgd]
 rw[if_pos hw];obtain⟨i,hi,hz,hsize,hby⟩:=info_parts hinfo;obtain⟨v',w',hr,h2,h3,_,_⟩:=run_append_own_at (P:=P) w base t o.type e i z size bytes ht hi hz hsize hby hzs hsz (.slice A n c) n xs hown.out ad m cc news hl.out hnews.out h1.out hb.out.1 hb.out.2.1 hb.out.2.2;obtain⟨A',c',rfl⟩:=qdi h2;unfold Oper.wp execOp;simp only[ho,resolve,invoke,builtin,Sem.run_bind,Sem.run_pure,Result.andThen_ok,List.map_toArray,List.map_cons,List.map_nil,hs,hx,hr];exact h A' c' w' h2 h3
end
section
open Go.RowKit
theorem qbS {W0:World}{g:Nat}{t:TypeId}{cs:Array Value}(hg:W0.heap.size=g):Has (W0.alloc (.cells cs t)) g t cs:=by
 subst hg;exact Has.made _ _ _
theorem qab {w:World}{g:Nat}{t:TypeId}{old:Array Value}(h:Has w g t old)(cs:Array Value):Has (w.setRow g cs) g t cs:=by
 unfold Has at h⊢;simp[World.setRow,Array.getElem?_modify,h]
theorem qae {w:World}{g k:Nat}{t:TypeId}{old:Array Value}(h:Has w k t old)(hne:k≠g)(cs:Array Value):Has (w.setRow g cs) k t old:=by
 unfold Has at h⊢;rw[setRow_other w g k cs hne];exact h
theorem qao {w W:World}(h:Below w.heap.size w W)(o:Obj):Below w.heap.size w (W.alloc o):=h.alloc h.size o
theorem qah {B:Nat}{a w:World}(h:Below B a w):Below B a w.drew:=⟨h.os,h.tape,h.output,h.size,h.block⟩
theorem Has.raw11 {w:World}{g:Nat}{t:TypeId}{cs:Array Value}(h:Has w g t cs):w.heap[g]?=some (.cells cs t (0,0)):=h
theorem Has.is11 {w:World}{g:Nat}{t:TypeId}{cs cs':Array Value}(h:Has w g t cs)(e:cs=cs'):Has w g t cs':=e▸h
theorem add_block11 (a:Addr)(j:Nat):(a.add j).block=a.block:=by unfold Addr.add;split<;>rfl
theorem sl_row11 {W:World}{s g n c:Nat}{A:Option Addr}{vs:List Value}(h:Sl W s A n c vs)(hne: ∀a,A=some a->a.block≠g)(cs:Array Value):Sl (W.setRow g cs) s A n c vs:=by
 refine⟨h.1,h.2.1,fun ad ha j u hu=>?_⟩;have h0:=h.2.2 ad ha j u hu;rw[World.cell?_of_block (w:=W) (by rw[add_block11];exact setRow_other W g ad.block cs (hne ad ha))];exact h0
theorem qbx {P:Program}{ops:Array Oper}{rest:List Oper}{a:Act}{w:World}{Q:Exit->Act->World->Prop}(d:Nat){op:Op}{ty:TypeId}{pos:String}{after:Array Edge}{guard:Option (Nat×Bool)}(h:wpList P ops Q (⟨some d,op,ty,pos,after,guard⟩::rest) a w):wpList P ops Q (⟨some d,op,ty,pos,after,guard⟩::rest) a w:=h
theorem qcI {P:Program}{fn:Func}{p u:Tmp}{ty:TypeId}(h:fn.results=#[.cell p ty,.tmp u])(tmps:Array Value)(w:World)(g:Nat)(t:TypeId)(cs:Array Value)(d:TypeDesc)
  (hp:tmps.getD p undef= .pointer (some ⟨g,0,none⟩)) (hg:w.heap[g]?=some (.cells cs t (0,0)))
  (hu:P.underlying ty=some d) (hd:(match d with| .struct _| .array _ _=>true|_=>false)=true) (hi:(P.info? ty).map (·.size)=some cs.size):
  (results fn tmps).run P w= .ok (.tuple #[.agg cs,tmps.getD u undef]) w:=by
 rw[results_cell_tmp h,hp];simp[asAddr,run_loadVar_row w g t ty cs (0,0) d hg hu hd hi]
theorem qaw {P:Program}{ops:Array Oper}{Q:Exit->Act->World->Prop}{md:Region.Mode}{S T:World->Prop}(hST: ∀w,T w->S w):
  ∀ {fuel:Nat} {listed:Array Bool} {a:Act} {w:World},wpAnyH P md ops Q T fuel listed a w->wpAnyH P md ops Q S fuel listed a w
 |0,_,_,_,h=>h
 |_+1,_,_,_,h=>⟨h.1,fun i hi=>wpOp_mono (fun _ _ h'=>⟨hST _ h'.1,qaw hST h'.2⟩) (h.2 i hi)⟩
theorem qcO {P:Program}{ops:Array Oper}{S:World->Prop}{o:Oper}{a:Act}(ty:TypeId)(x:Operand)(ho:o.op= .load ty x)(g:Nat)(hx:a.eval x= .pointer (some ⟨g,0,none⟩))(t:TypeId)(cs:Array Value)(d:TypeDesc)
  (hS: ∀w,S w->Has w g t cs) (hu:P.underlying ty=some d) (hd:(match d with| .struct _| .array _ _=>true|_=>false)=true) (hi:(P.info? ty).map (·.size)=some cs.size) (hw:Region.wanted o (yielded ops a.tmps)=true):YieldsIf P ops S o (.agg cs) a:=by
 refine .inl ⟨hw,fun w h=>?_⟩;unfold execOp;simp only[ho,hx,Instr.loadAt,Instr.sureAddr,Sem.run_bind,Sem.run_pure,Result.andThen_ok,run_loadVar_row w g t ty cs (0,0) d (hS w h) hu hd hi]
/-! Structs compared. -/
theorem qbo {P:Program}{ops:Array Oper}{S:World->Prop}{o:Oper}{a:Act}(op:BinOp)(t ty:TypeId)(x y:Operand)(ho:o.op= .binOp op t x y ty)(xs ys:Array Value)(hx:a.eval x= .agg xs)(hy:a.eval y= .agg ys)(hm:P.eqGuardType P.depth t=false)(v:Value)(hr: ∀w,(binOp op t (.agg xs) (.agg ys)).run P w= .ok v w)(hw:Region.wanted o (yielded ops a.tmps)=true):YieldsIf P ops S o v a:=by
 refine .inl ⟨hw,fun w _=>?_⟩;unfold execOp;simp only[ho,hx,hy,Sem.run_bind,run_eqGuard_agg w op t x y xs ys hm,Result.andThen_ok,hr,Sem.run_pure]
theorem qaB {P:Program}{ops:Array Oper}{rest:List Oper}{o:Oper}{a:Act}{w:World}{Q:Exit->Act->World->Prop}(ty:TypeId)(x:Operand)(ho:o.op= .load ty x)(hw:Region.wanted o (yielded ops a.tmps)=true)
  (g:Nat) (hx:a.eval x= .pointer (some ⟨g,0,none⟩)) (t:TypeId) (cs:Array Value) (fr:Nat×Nat) (d:TypeDesc) (hg:w.heap[g]?=some (.cells cs t fr))
  (hu:P.underlying ty=some d) (hd:(match d with| .struct _| .array _ _=>true|_=>false)=true) (hi:(P.info? ty).map (·.size)=some cs.size)
  (h:wpList P ops Q rest (a.put o.dst (.agg cs)) w):wpList P ops Q (o::rest) a w:=
 Go.BigFrame.wpList_want hw fun _ hK=>wp_load_row ty x ho g hx t cs fr d hg hu hd hi (hK _ _ h)
theorem qaV {P:Program}(w:World)(d:Nat)(xs ys:Array Value)(f:Field)(fs:List Field)(a b:Value)(hn:f.name≠ "_")(ha:(part f.type xs f.offset).run P w= .ok a w)(hb:(part f.type ys f.offset).run P w= .ok b w)(he:(Op.equalIn d f.type a b).run P w= .ok true w):
  (Op.eqFields d xs ys (f::fs)).run P w=(Op.eqFields d xs ys fs).run P w:=by
 simp[Op.eqFields,hn,ha,hb,he]
theorem qbX {P:Program}(w:World)(d:Nat)(xs ys:Array Value):(Op.eqFields d xs ys []).run P w= .ok true w:=by simp[Op.eqFields]
theorem qam {P:Program}(w:World)(t:TypeId)(xs:Array Value)(i:Nat)(v:Value)(hagg:(isAgg t).run P w= .ok false w)(hv:xs[i]?=some v):(part t xs i).run P w= .ok v w:=by
 simp[part,hagg,hv]
theorem qaj (w:World)(g:Nat)(cs:Array Value):w.grownBy (w.setRow g cs) (some g):=
 ⟨rfl,rfl,rfl,by simp,fun k _ hk=>setRow_other w g k cs (fun e=>hk (by rw[e]))⟩
end
section
open Go.RowKit

theorem lyZ : (∀ (a : Act) (d : Option Nat) (v : Value), a.put d v = match d with | some t => { a with tmps := a.tmps.setIfInBounds t v } | none => a) ∧ (∀ (α : Type) (l : List α) (i : Nat) (x : α), l.toArray.setIfInBounds i x = (l.set i x).toArray) ∧ (∀ (α : Type) (a b : α) (l : List α), (a :: l).set 0 b = b :: l) ∧ (∀ (α : Type) (a b : α) (l : List α) (n : Nat), (a :: l).set (n + 1) b = a :: l.set n b) := by
  refine ⟨fun a d v => ?_, fun _ l i x => by simp, fun _ _ _ _ => rfl, fun _ _ _ _ _ => rfl⟩
  cases d <;> rfl
/-- A read that comes up first. -/
theorem tkZ {P : Program} {ops : Array Oper} {Q : Exit → Act → World → Prop} {md : Region.Mode} {S : World → Prop} {fuel : Nat} {listed : Array Bool} {a : Act} {w : World} {v : Value} {op : Op} {ty : TypeId} {ps : String} {af : Array Edge} {gd : Option (Nat × Bool)} (i d : Nat)
    (hi : ops[i]? = some ⟨some d, op, ty, ps, af, gd⟩ := by exact rfl) (hs : Region.noSelect ops = true := by kernel_rfl) (hf : Region.free md ops listed i = true := by kernel_rfl) (hr : (Region.ready md ops listed).contains i = true := by kernel_rfl)
    (hQ : ∀ c a w, Q (.panic c) (a.put (some d) v) w → Q (.panic c) a w := by exact fun _ _ _ h => h) (hw : Region.wanted ⟨some d, op, ty, ps, af, gd⟩ (yielded ops a.tmps) = true := by rfl)
    (hy : ∀ w_, S w_ → (execOp a.eval ⟨some d, op, ty, ps, af, gd⟩).run P w_ = .ok (.value v) w_ := by intro w_ hSw; (try dsimp only at hSw); go_simp <;> with_reducible rfl)
    (hS : S w := by assumption) (h : wpAnyH P md ops Q S fuel (listed.setIfInBounds i true) (a.put (some d) v) w) : wpAnyH P md ops Q S (fuel + 1) listed a w :=
  wpAnyH_take hi hs hf hr hQ (Or.inl ⟨hw, hy⟩) hS h
/-- An operation whose guard is false. -/
theorem skZ {P : Program} {ops : Array Oper} {Q : Exit → Act → World → Prop} {md : Region.Mode} {S : World → Prop} {fuel : Nat} {listed : Array Bool} {a : Act} {w : World} {op : Op} {ty : TypeId} {ps : String} {af : Array Edge} {gd : Option (Nat × Bool)} (i d : Nat)
    (hi : ops[i]? = some ⟨some d, op, ty, ps, af, gd⟩ := by exact rfl) (hs : Region.noSelect ops = true := by kernel_rfl) (hf : Region.free md ops listed i = true := by kernel_rfl) (hr : (Region.ready md ops listed).contains i = true := by kernel_rfl)
    (hQ : ∀ c a w, Q (.panic c) (a.put (some d) undef) w → Q (.panic c) a w := by exact fun _ _ _ h => h) (hw : Region.wanted ⟨some d, op, ty, ps, af, gd⟩ (yielded ops a.tmps) = false := by rfl)
    (hS : S w := by assumption) (h : wpAnyH P md ops Q S fuel (listed.setIfInBounds i true) (a.put (some d) undef) w) : wpAnyH P md ops Q S (fuel + 1) listed a w :=
  wpAnyH_take hi hs hf hr hQ (Or.inr ⟨hw, rfl⟩) hS h
def rowZ (P : Program) (t : TypeId) : Bool := match P.underlying t with | some (.struct _) => true | some (.array _ _) => true | _ => false
theorem rowZ_is {P : Program} {t : TypeId} (h : rowZ P t = true) : (∃ d, P.underlying t = some (.struct d)) ∨ ∃ n d, P.underlying t = some (.array n d) := by
  unfold rowZ at h
  split at h
  · next e => exact .inl ⟨_, e⟩
  · next e => exact .inr ⟨_, _, e⟩
  · cases h
/-- A whole struct loaded, in a drawn region. -/
theorem tlZ {P : Program} {ops : Array Oper} {Q : Exit → Act → World → Prop} {md : Region.Mode} {S : World → Prop} {fuel : Nat} {listed : Array Bool} {a : Act} {w : World} {x : Operand} {t ty : TypeId} {ps : String} {af : Array Edge} {gd : Option (Nat × Bool)} (i d g : Nat) (cs : Array Value) (hS2 : ∀ w, S w → Has w g t cs)
    (hi : ops[i]? = some ⟨some d, .load t x, ty, ps, af, gd⟩ := by exact rfl) (hs : Region.noSelect ops = true := by kernel_rfl) (hf : Region.free md ops listed i = true := by kernel_rfl) (hr : (Region.ready md ops listed).contains i = true := by kernel_rfl)
    (hQ : ∀ c a w, Q (.panic c) (a.put (some d) (.agg cs)) w → Q (.panic c) a w := by exact fun _ _ _ h => h) (hw : Region.wanted ⟨some d, .load t x, ty, ps, af, gd⟩ (yielded ops a.tmps) = true := by rfl)
    (hx : a.eval x = .pointer (some ⟨g, 0, none⟩) := by exact rfl) (hu : rowZ P t = true := by kernel_rfl) (hn : (P.info? t).map (·.size) = some cs.size := by kernel_rfl)
    (hS : S w := by assumption) (h : wpAnyH P md ops Q S fuel (listed.setIfInBounds i true) (a.put (some d) (.agg cs)) w) : wpAnyH P md ops Q S (fuel + 1) listed a w := by
  rcases rowZ_is hu with ⟨_, h1⟩ | ⟨_, _, h1⟩
  · exact wpAnyH_take hi hs hf hr hQ (qcO t x rfl g hx t cs _ hS2 h1 rfl hn hw) hS h
  · exact wpAnyH_take hi hs hf hr hQ (qcO t x rfl g hx t cs _ hS2 h1 rfl hn hw) hS h
/-- One operation is ready. -/
theorem rdZ {P : Program} {ops : Array Oper} {Q : Exit → Act → World → Prop} {md : Region.Mode} {S : World → Prop} {fuel : Nat} {listed : Array Bool} {a : Act} {w : World} (rs : List Nat) (h : AllReadyH P md ops Q S fuel listed a w rs) (hr : Region.ready md ops listed = rs := by kernel_rfl) (hn : rs ≠ [] := by simp) : wpAnyH P md ops Q S (fuel + 1) listed a w := wpAnyH_ready hr hn h
theorem acZ {P : Program} {ops : Array Oper} {Q : Exit → Act → World → Prop} {md : Region.Mode} {S : World → Prop} {fuel : Nat} {listed : Array Bool} {a : Act} {w : World} {i : Nat} {op : Op} {ty : TypeId} {ps : String} {af : Array Edge} {gd : Option (Nat × Bool)} {rs : List Nat} (d : Option Nat)
    (h : ∀ K : Act → World → Prop, Shut (∀ a w, S w → (S w → wpAnyH P md ops Q S fuel (listed.setIfInBounds i true) a w) → K a w) → if Region.wanted ⟨d, op, ty, ps, af, gd⟩ (yielded ops a.tmps) = true then Oper.wp P ⟨d, op, ty, ps, af, gd⟩ a w K Q else K (a.put d undef) w)
    (hs : AllReadyH P md ops Q S fuel listed a w rs) (ho : ops[i]? = some ⟨d, op, ty, ps, af, gd⟩ := by exact rfl) : AllReadyH P md ops Q S fuel listed a w (i :: rs) := AllReadyH.cons ho h hs
/-- The only one that is ready. -/
theorem aoZ {P : Program} {ops : Array Oper} {Q : Exit → Act → World → Prop} {md : Region.Mode} {S : World → Prop} {fuel : Nat} {listed : Array Bool} {a : Act} {w : World} {op : Op} {ty : TypeId} {ps : String} {af : Array Edge} {gd : Option (Nat × Bool)} (i : Nat) (d : Option Nat)
    (h : ∀ K : Act → World → Prop, Shut (∀ a w, S w → (S w → wpAnyH P md ops Q S fuel (listed.setIfInBounds i true) a w) → K a w) → if Region.wanted ⟨d, op, ty, ps, af, gd⟩ (yielded ops a.tmps) = true then Oper.wp P ⟨d, op, ty, ps, af, gd⟩ a w K Q else K (a.put d undef) w)
    (ho : ops[i]? = some ⟨d, op, ty, ps, af, gd⟩ := by exact rfl) (hr : Region.ready md ops listed = [i] := by kernel_rfl) : wpAnyH P md ops Q S (fuel + 1) listed a w := wpAnyH_ready hr (by simp) (AllReadyH.cons ho h AllReadyH.nil)
theorem dnZ {P : Program} {ops : Array Oper} {Q : Exit → Act → World → Prop} {md : Region.Mode} {S : World → Prop} {fuel : Nat} {listed : Array Bool} {a : Act} {w : World} (h : Q .normal a w) (hr : Region.ready md ops listed = [] := by kernel_rfl) : wpAnyH P md ops Q S fuel listed a w := wpAnyH_done hr h _
/-- A whole struct loaded. -/
theorem ldZ {P : Program} {ops : Array Oper} {rest : List Oper} {a : Act} {w : World} {Q : Exit → Act → World → Prop} {t ty : TypeId} {x : Operand} {ps : String} {af : Array Edge} {g : Nat} {cs : Array Value} (k : Nat) (H : Has w g t cs)
    (h : wpList P ops Q rest (a.put (some k) (.agg cs)) w) (hx : a.eval x = .pointer (some ⟨g, 0, none⟩) := by with_unfolding_all exact rfl) (hu : rowZ P t = true := by kernel_rfl) (hn : (P.info? t).map (·.size) = some cs.size := by kernel_rfl) : wpList P ops Q (⟨some k, .load t x, ty, ps, af, none⟩ :: rest) a w := by
  rcases rowZ_is hu with ⟨_, h1⟩ | ⟨_, _, h1⟩
  · exact wpList_load_row rfl t x rfl g hx t cs (0, 0) _ H h1 rfl hn h
  · exact wpList_load_row rfl t x rfl g hx t cs (0, 0) _ H h1 rfl hn h
/-- A whole struct stored. -/
theorem stZ {P : Program} {ops : Array Oper} {rest : List Oper} {a : Act} {w : World} {Q : Exit → Act → World → Prop} {t ty : TypeId} {x y : Operand} {ps : String} {af : Array Edge} {g : Nat} {old : Array Value} (cells : Array Value) (H : Has w g t old)
    (h : wpList P ops Q rest a (w.setRow g cells)) (hx : a.eval x = .pointer (some ⟨g, 0, none⟩) := by with_unfolding_all exact rfl) (hy : a.eval y = .agg cells := by with_unfolding_all exact rfl) (hi : (P.info? t).map (·.size) = some cells.size := by kernel_rfl) (hold : old.size = cells.size := by kernel_rfl) (h1 : cells.all (·.oneCell') = true := by kernel_rfl) : wpList P ops Q (⟨none, .store t x y, ty, ps, af, none⟩ :: rest) a w :=
  wpList_store_rowTo rfl t x y rfl rfl g cells hx hy t old H hi hold h1 h
/-- Results: a struct, a word beside it. -/
theorem rtZ {P : Program} {fn : Func} {R : Ending → World → Prop} {a : Act} {w w' : World} {p u : Tmp} {t : TypeId} {g : Nat} {cs : Array Value} (H : Has w' g t cs) (hR : R (.returned (.tuple #[.agg cs, a.tmps.getD u undef])) w) (h : fn.results = #[.cell p t, .tmp u] := by with_unfolding_all exact rfl) (hd : a.defers = [] := by with_unfolding_all exact rfl)
    (hp : a.tmps.getD p undef = .pointer (some ⟨g, 0, none⟩) := by with_unfolding_all exact rfl) (hu : rowZ P t = true := by kernel_rfl) (hi : (P.info? t).map (·.size) = some cs.size := by kernel_rfl) (e : w'.heap = w.heap := by with_unfolding_all exact rfl) : bodyPost P fn R .ret a w := by
  have H : Has w g t cs := by unfold Has at H ⊢; rw [← e]; exact H
  rcases rowZ_is hu with ⟨_, h1⟩ | ⟨_, _, h1⟩
  · exact bodyPost_ret (qcI h _ _ g t cs _ hp H h1 rfl hi) hd hR
  · exact bodyPost_ret (qcI h _ _ g t cs _ hp H h1 rfl hi) hd hR
/-- The result: a struct. -/
theorem roZ {P : Program} {fn : Func} {R : Ending → World → Prop} {a : Act} {w w' : World} {p : Tmp} {t : TypeId} {g : Nat} {cs : Array Value} (H : Has w' g t cs) (hR : R (.returned (.agg cs)) w) (h : fn.results = #[.cell p t] := by with_unfolding_all exact rfl) (hd : a.defers = [] := by with_unfolding_all exact rfl)
    (hp : a.tmps.getD p undef = .pointer (some ⟨g, 0, none⟩) := by with_unfolding_all exact rfl) (hu : rowZ P t = true := by kernel_rfl) (hi : (P.info? t).map (·.size) = some cs.size := by kernel_rfl) (e : w'.heap = w.heap := by with_unfolding_all exact rfl) : bodyPost P fn R .ret a w := by
  have H : Has w g t cs := by unfold Has at H ⊢; rw [← e]; exact H
  rcases rowZ_is hu with ⟨_, h1⟩ | ⟨_, _, h1⟩
  · exact bodyPost_ret (results_cell_row h _ _ g t cs (0, 0) _ hp H h1 rfl hi) hd hR
  · exact bodyPost_ret (results_cell_row h _ _ g t cs (0, 0) _ hp H h1 rfl hi) hd hR
theorem zq {p : Prop} (h : p) : Hid p := h
theorem bx1Z (w : World) (t : TypeId) (c : Array Value) : ∃ wa, w.alloc (.cells c t) = wa ∧ Below w.heap.size w wa ∧ Hid (w.alloc (.cells c t) = wa) ∧ Hid (Below w.heap.size w wa) ∧ Has wa w.heap.size t c :=
  ⟨_, rfl, (Below.refl _ _).alloc (Nat.le_refl _) _, zq rfl, zq ((Below.refl _ _).alloc (Nat.le_refl _) _), Has.made _ _ _⟩
theorem bx2Z (w : World) (t : TypeId) (c : Array Value) (t2 : TypeId) (c2 : Array Value) : ∃ wa, (w.alloc (.cells c t)).alloc (.cells c2 t2) = wa ∧ Below w.heap.size w wa ∧ Hid ((w.alloc (.cells c t)).alloc (.cells c2 t2) = wa) ∧ Hid (Below w.heap.size w wa) ∧ Has wa w.heap.size t c ∧ Has wa (w.heap.size + 1) t2 c2 :=
  ⟨_, rfl, ((Below.refl _ _).alloc (Nat.le_refl _) _).alloc (by simp) _, zq rfl, zq (((Below.refl _ _).alloc (Nat.le_refl _) _).alloc (by simp) _), (Has.made _ _ _).beside _, qbS (by simp)⟩
theorem bx3Z (w : World) (t : TypeId) (c : Array Value) (t2 : TypeId) (c2 : Array Value) (t3 : TypeId) (c3 : Array Value) : ∃ wa, ((w.alloc (.cells c t)).alloc (.cells c2 t2)).alloc (.cells c3 t3) = wa ∧ Below w.heap.size w wa ∧ Hid (((w.alloc (.cells c t)).alloc (.cells c2 t2)).alloc (.cells c3 t3) = wa) ∧ Hid (Below w.heap.size w wa) ∧ Has wa w.heap.size t c ∧ Has wa (w.heap.size + 1) t2 c2 ∧ Has wa (w.heap.size + 1 + 1) t3 c3 :=
  ⟨_, rfl, (((Below.refl _ _).alloc (Nat.le_refl _) _).alloc (by simp) _).alloc (by simp; omega) _, zq rfl, zq ((((Below.refl _ _).alloc (Nat.le_refl _) _).alloc (by simp) _).alloc (by simp; omega) _), ((Has.made _ _ _).beside _).beside _, (qbS (by simp)).beside _, qbS (by simp)⟩
theorem bA {w : World} {o : Obj} : Below w.heap.size w (w.alloc o) := (Below.refl _ _).alloc (Nat.le_refl _) _
theorem geZ {α : Sort _} (a : α) : ∃ x, a = x := ⟨_, rfl⟩
theorem glZ {α : Type} (l : List α) (i : Nat) (h : i < l.length) : ∃ x, l[i]? = some x := ⟨_, List.getElem?_eq_getElem h⟩
/-- A read that comes up first, by a fact of the world. -/
theorem tqZ {P : Program} {ops : Array Oper} {Q : Exit → Act → World → Prop} {md : Region.Mode} {S F : World → Prop} {fuel : Nat} {listed : Array Bool} {a : Act} {w : World} {v : Value} {op : Op} {ty : TypeId} {ps : String} {af : Array Edge} {gd : Option (Nat × Bool)} (i d : Nat) (q : ∀ w_, S w_ → F w_)
    (hi : ops[i]? = some ⟨some d, op, ty, ps, af, gd⟩ := by exact rfl) (hs : Region.noSelect ops = true := by kernel_rfl) (hf : Region.free md ops listed i = true := by kernel_rfl) (hr : (Region.ready md ops listed).contains i = true := by kernel_rfl)
    (hQ : ∀ c a w, Q (.panic c) (a.put (some d) v) w → Q (.panic c) a w := by exact fun _ _ _ h => h) (hw : Region.wanted ⟨some d, op, ty, ps, af, gd⟩ (yielded ops a.tmps) = true := by rfl)
    (hy : ∀ w_, F w_ → (execOp a.eval ⟨some d, op, ty, ps, af, gd⟩).run P w_ = .ok (.value v) w_ := by intro w_ q_; (try dsimp only at q_); go_simp <;> with_reducible rfl)
    (hS : S w := by assumption) (h : wpAnyH P md ops Q S fuel (listed.setIfInBounds i true) (a.put (some d) v) w) : wpAnyH P md ops Q S (fuel + 1) listed a w :=
  wpAnyH_take hi hs hf hr hQ (Or.inl ⟨hw, fun w_ h_ => hy w_ (q w_ h_)⟩) hS h
theorem Has.u {w W : World} {g : Nat} {t : TypeId} {cs : Array Value} (h : Has w g t cs) (hb : Below w.heap.size w W) : Has W g t cs := h.under hb h.lt
theorem bu {a w W : World} (h : Below a.heap.size a w) (hb : Below w.heap.size w W) : Below a.heap.size a W := h.trans (hb.mono h.size)
theorem tB {a w W : World} (h : Hid (Below a.heap.size a w)) (hb : Below w.heap.size w W) : Hid (Below a.heap.size a W) := bu h hb
theorem uH {w W : World} {g : Nat} {t : TypeId} {cs : Array Value} (h : Hid (Has w g t cs)) (hb : Below w.heap.size w W) : Hid (Has W g t cs) := Has.u h hb
theorem zH {w : World} {g : Nat} {t : TypeId} {cs : Array Value} (h : Has w g t cs) : Hid (∀ W, Below w.heap.size w W → Has W g t cs) := fun _ hb => h.u hb
theorem mr1 {P : Program} {ops : Array Oper} {Q : Exit → Act → World → Prop} {md : Region.Mode} {A : World → Prop} {fuel : Nat} {listed : Array Bool} {a : Act} {w : World} (X : World → Prop) (hS : A w ∧ X w) (h : A w ∧ X w → wpAnyH P md ops Q (fun W => A W ∧ X W) fuel listed a w) : wpAnyH P md ops Q A fuel listed a w := qaw (fun _ h => h.1) (h hS)
theorem mr2 {P : Program} {ops : Array Oper} {Q : Exit → Act → World → Prop} {md : Region.Mode} {A B : World → Prop} {fuel : Nat} {listed : Array Bool} {a : Act} {w : World} (X : World → Prop) (hS : A w ∧ B w ∧ X w) (h : A w ∧ B w ∧ X w → wpAnyH P md ops Q (fun W => A W ∧ B W ∧ X W) fuel listed a w) : wpAnyH P md ops Q (fun W => A W ∧ B W) fuel listed a w := qaw (fun _ h => ⟨h.1, h.2.1⟩) (h hS)
theorem mr3 {P : Program} {ops : Array Oper} {Q : Exit → Act → World → Prop} {md : Region.Mode} {A B C : World → Prop} {fuel : Nat} {listed : Array Bool} {a : Act} {w : World} (X : World → Prop) (hS : A w ∧ B w ∧ C w ∧ X w) (h : A w ∧ B w ∧ C w ∧ X w → wpAnyH P md ops Q (fun W => A W ∧ B W ∧ C W ∧ X W) fuel listed a w) : wpAnyH P md ops Q (fun W => A W ∧ B W ∧ C W) fuel listed a w := qaw (fun _ h => ⟨h.1, h.2.1, h.2.2.1⟩) (h hS)
theorem mr4 {P : Program} {ops : Array Oper} {Q : Exit → Act → World → Prop} {md : Region.Mode} {A B C D : World → Prop} {fuel : Nat} {listed : Array Bool} {a : Act} {w : World} (X : World → Prop) (hS : A w ∧ B w ∧ C w ∧ D w ∧ X w) (h : A w ∧ B w ∧ C w ∧ D w ∧ X w → wpAnyH P md ops Q (fun W => A W ∧ B W ∧ C W ∧ D W ∧ X W) fuel listed a w) : wpAnyH P md ops Q (fun W => A W ∧ B W ∧ C W ∧ D W) fuel listed a w := qaw (fun _ h => ⟨h.1, h.2.1, h.2.2.1, h.2.2.2.1⟩) (h hS)
end
section
structure St3 where
 edge:Int
 rev:Bool
structure Jt3 where
 a:Int×Int
 b:Int×Int
structure Bl3 where
 id:Int
 edge:Int
 at_:Int
structure Rt3 where
 id:Int
 path:List St3
 gap:Int
 timer:Int
structure Tp3 where
 edges:List Int
 joints:List Jt3
 bals:List Bl3
 routes:List Rt3
def eqS (a b:St3):Bool:=(a.edge==b.edge) &&(a.rev==b.rev)
theorem qaI (a b:St3):eqS a b=true↔a=b:=by
 obtain⟨x,y⟩:=a;obtain⟨z,u⟩:=b;unfold eqS;simp
def eqE (a b:Int×Int):Bool:=(a.1==b.1) &&(a.2==b.2)
theorem eqE_iff (a b:Int×Int):eqE a b=true↔a=b:=by
 obtain⟨x,y⟩:=a;obtain⟨z,u⟩:=b;unfold eqE;simp
theorem qcl (a b:Int×Int):eqE a b=eqE b a:=by
 rw[Bool.eq_iff_iff,eqE_iff,eqE_iff];exact eq_comm
def inE (s:St3):Int×Int:=(s.edge,if s.rev=true then 1 else 0)
def outE (s:St3):Int×Int:=(s.edge,if s.rev=true then 0 else 1)
def joinJ (a b:Int×Int)(j:Jt3):Bool:=(eqE j.a a &&eqE j.b b)||(eqE j.a b &&eqE j.b a)
def joinB (l:List Jt3)(a b:Int×Int):Bool:=l.any (joinJ a b)
def edgeB (t:Tp3)(n:Int):Bool:=decide (0<=n) &&decide (n<t.edges.length)
def endB (t:Tp3)(x:Int×Int):Bool:=edgeB t x.1 &&(x.2==0||x.2==1)
def mayT (t:Tp3)(a b:St3):Bool:=joinB t.joints (outE a) (inE b)
def qcy (t:Tp3)(s:St3)(i:Nat):List St3:=(if mayT t s ⟨i,false⟩=true then[⟨i,false⟩]else[])++(if mayT t s ⟨i,true⟩=true then[⟨i,true⟩]else[])
def qaC (t:Tp3)(s:St3):List St3:=if edgeB t s.edge=true then(List.range t.edges.length).flatMap (qcy t s)else[]
theorem qen {t:Tp3}{s b:St3}{i:Nat}:b∈qcy t s i↔b.edge=i/\mayT t s b=true:=by
 obtain⟨e,r⟩:=b;unfold qcy
 constructor
 ·intro h
  rcases List.mem_append.1 h with h|h<;>(split at h<;>simp at h)
  all_goals
   obtain⟨rfl,rfl⟩:=h;exact⟨rfl,by assumption⟩
 ·rintro⟨h1,h2⟩
  simp only at h1;subst h1
  cases r
  ·exact List.mem_append.2 (.inl (by rw[if_pos h2];simp))
  ·exact List.mem_append.2 (.inr (by rw[if_pos h2];simp))
theorem qbw {t:Tp3}{s b:St3}:b∈qaC t s↔edgeB t s.edge=true/\edgeB t b.edge=true/\mayT t s b=true:=by
 unfold qaC;by_cases h:edgeB t s.edge=true
 ·rw[if_pos h,List.mem_flatMap]
  constructor
  ·rintro⟨i,hi,hb⟩
   obtain⟨h1,h2⟩:=qen.1 hb;refine⟨h,?_,h2⟩;unfold edgeB;rw[h1]
   simpa using hi
  ·rintro⟨_,h1,h2⟩
   unfold edgeB at h1;simp only[Bool.and_eq_true,decide_eq_true_eq]at h1;exact⟨b.edge.toNat,by simp;omega,qen.2 ⟨by omega,h2⟩⟩
 ·rw[if_neg h]
  simp[h]
def qbV (l:List St3)(s:St3):Bool:=l.any fun x=>eqS x s
theorem qc5 (l:List St3)(s:St3):qbV l s=true↔s∈l:=by
 unfold qbV;rw[List.any_eq_true]
 constructor
 ·rintro⟨x,hx,e⟩
  rw[qaI]at e;exact e▸hx
 ·intro h
  exact⟨s,h,(qaI s s).2 rfl⟩
def wayB (t:Tp3):List St3->Bool
 |a::b::r=>mayT t a b &&wayB t (b::r)
 |_=>true
theorem qgw {t:Tp3}{path:List St3}:wayB t path=true↔ ∀i a b,path[i]?=some a->path[i+1]?=some b->mayT t a b=true:=by
 induction path with
 |nil=>simp[wayB]
 |cons x r ih=>
  cases r with
  |nil=>simp[wayB]
  |cons y r=>
   rw[wayB,Bool.and_eq_true,ih]
   constructor
   ·rintro⟨h1,h2⟩ i a b ha hb
    cases i with
    |zero=>
     simp at ha hb;subst ha hb;exact h1
    |succ j=>exact h2 j a b (by simpa using ha) (by simpa using hb)
   ·intro h
    exact⟨h 0 x y rfl rfl,fun i a b ha hb=>h (i+1) a b (by simpa using ha) (by simpa using hb)⟩
def lenAt (t:Tp3)(s:St3):Int:=t.edges.getD s.edge.toNat 0
def sumT (t:Tp3):List St3->Int
 |[]=>0
 |s::r=>lenAt t s+sumT t r
theorem qfI (t:Tp3)(a b:List St3):sumT t (a++b)=sumT t a+sumT t b:=by
 induction a with
 |nil=>simp[sumT]
 |cons x r ih=>
  show lenAt t x+sumT t (r++b)=lenAt t x+sumT t r+sumT t b
  rw[ih,Int.add_assoc]
def qaF (t:Tp3):Bool:=t.edges.all fun e=>decide (1<=e) &&decide (e<=1000000)
theorem qa2 {t:Tp3}(h:qaF t=true){s:St3}(hs:edgeB t s.edge=true):1<=lenAt t s/\lenAt t s<=1000000:=by
 unfold qaF at h;rw[List.all_eq_true]at h;unfold edgeB at hs;simp only[Bool.and_eq_true,decide_eq_true_eq]at hs;have hl:s.edge.toNat<t.edges.length:=by omega
 have:=h _ (List.getElem_mem hl);unfold lenAt;rw[List.getD_eq_getElem?_getD,List.getElem?_eq_getElem hl]
 simpa using this
theorem qcw {t:Tp3}(h:qaF t=true){path:List St3}(hp: ∀s∈path,edgeB t s.edge=true):(path.length:Int)<=sumT t path/\sumT t path<=path.length*1000000:=by
 induction path with
 |nil=>simp[sumT]
 |cons x r ih=>
  have h1:=qa2 h (hp x (List.mem_cons_self ..));have h2:=ih fun s hs=>hp s (List.mem_cons_of_mem _ hs);show(((x::r).length:Nat):Int)<=lenAt t x+sumT t r/\lenAt t x+sumT t r<=((x::r).length:Nat)*1000000
  rw[List.length_cons];omega
def lenE (t:Tp3)(path:List St3):Int:=
 if path.length=0\/40<path.length then 1 else if(path.all fun s=>edgeB t s.edge)=true then(if wayB t path=true then 0 else 141)else 1
def lenN (t:Tp3)(path:List St3):Int:=if lenE t path=0 then sumT t path else 0
def balF (t:Tp3)(id:Int):Option Bl3:=t.bals.find? fun b=>b.id==id
def qaR (t:Tp3)(id:Int):Option Rt3:=t.routes.find? fun r=>r.id==id
def qaE (f:Nat->Int):Nat->Int
 |0=>0
 |n+1=>if qaE f n=0 then f n else qaE f n
theorem qf4 {f:Nat->Int}{n:Nat}:qaE f n=0↔ ∀i,i<n->f i=0:=by
 induction n with
 |zero=>simp[qaE]
 |succ n ih=>
  rw[qaE]
  constructor
  ·intro h i hi
   split at h
   ·rename_i h0
    by_cases e:i=n
    ·rw[e];exact h
    ·exact ih.1 h0 i (by omega)
   ·rename_i h0;exact absurd h h0
  ·intro h
   rw[if_pos (ih.2 fun i hi=>h i (by omega))];exact h n (by omega)
theorem qaO {f:Nat->Int}{n i:Nat}(hi:i<n)(h:qaE f i=0)(hf:f i≠0):qaE f n=f i:=by
 induction n with
 |zero=>omega
 |succ n ih=>
  rw[qaE];by_cases e:i=n
  ·subst e
   rw[if_pos h]
  ·rw[ih (by omega),if_neg hf]
def qbi (t:Tp3)(i:Nat):Int:=
 match t.joints[i]? with
 |none=>0
 |some j=>if(endB t j.a &&endB t j.b &&!eqE j.a j.b)=true then(if joinB (t.joints.take i) j.a j.b=true then 5 else 0)else 1
def balE (t:Tp3)(i:Nat):Int:=
 match t.bals[i]? with
 |none=>0
 |some b=>if(decide (0<=b.id) &&decide (b.id<=16777214) &&edgeB t b.edge &&decide (0<=b.at_) &&decide (b.at_<=t.edges.getD b.edge.toNat 0))=true then(if((t.bals.take i).any fun x=>x.id==b.id)=true then 5 else 0)else 1
def qa6 (path:List St3):Bool:=decide (¬(path.map (·.edge)).Nodup)
def qcp (t:Tp3)(s:St3):Bool:=t.bals.any fun b=>b.edge==s.edge
def qbv (t:Tp3)(r:Rt3):Int:=
 if r.id<1\/r.path.length=0\/8<r.path.length then 1
 else if((r.path.all fun s=>edgeB t s.edge) &&!qa6 r.path)=true then
  (if lenE t r.path=0 then
   (if r.gap<0\/lenN t r.path-1<r.gap\/r.timer<1\/1000<r.timer then 1 else if(r.path.all (qcp t))=true then 0 else 4)
   else lenE t r.path)
 else 1
def qaY (t:Tp3)(i:Nat):Int:=
 match t.routes[i]? with
 |none=>0
 |some r=>if qbv t r=0 then(if((t.routes.take i).any fun x=>x.id==r.id)=true then 5 else 0)else qbv t r
def longB (t:Tp3):Bool:=decide (40<t.edges.length)||(decide (80<t.joints.length)||(decide (80<t.bals.length)||decide (30<t.routes.length)))
def qax (t:Tp3):Int:=
 if longB t=true then 2 else if qaF t=true then
  (if qaE (qbi t) t.joints.length=0 then
   (if qaE (balE t) t.bals.length=0 then qaE (qaY t) t.routes.length else qaE (balE t) t.bals.length)
   else qaE (qbi t) t.joints.length)
 else 1
def qaJ (t:Tp3):Bool:=decide (t.edges.length<=100) &&(decide (t.joints.length<=100) &&(decide (t.bals.length<=100) &&(decide (t.routes.length<=100) &&t.routes.all fun r=>decide (r.path.length<=100))))
theorem qaD {t:Tp3}(h:qax t=0):qaF t=true/\longB t=false/\ ∀i,i<t.routes.length->qaY t i=0:=by
 unfold qax at h;by_cases h1:longB t=true
 ·rw[if_pos h1]at h;exact absurd h (by decide)
 ·rw[if_neg h1]at h
  by_cases h2:qaF t=true
  ·rw[if_pos h2]at h
   by_cases h3:qaE (qbi t) t.joints.length=0
   ·rw[if_pos h3]at h
    by_cases h4:qaE (balE t) t.bals.length=0
    ·rw[if_pos h4]at h
     exact⟨h2,by simpa using h1,qf4.1 h⟩
    ·rw[if_neg h4]at h;exact absurd h h4
   ·rw[if_neg h3]at h;exact absurd h h3
  ·rw[if_neg h2]at h;exact absurd h (by decide)
theorem qej {t:Tp3}{r:Rt3}(h:qbv t r=0):1<=r.id/\1<=r.path.length/\r.path.length<=8/\(∀s∈r.path,edgeB t s.edge=true)/\(r.path.map (·.edge)).Nodup/\lenE t r.path=0/\0<=r.gap/\r.gap<lenN t r.path/\ ∀s∈r.path,qcp t s=true:=by
 unfold qbv at h;split at h
 ·exact absurd h (by decide)
 ·rename_i h1
  split at h
  ·rename_i h2
   simp only[Bool.and_eq_true,List.all_eq_true,qa6,Bool.not_eq_true',decide_eq_false_iff_not,Decidable.not_not]at h2;split at h
   ·rename_i h3
    split at h
    ·exact absurd h (by decide)
    ·rename_i h4
     split at h
     ·rename_i h5
      rw[List.all_eq_true]at h5;exact⟨by omega,by omega,by omega,h2.1,h2.2,h3,by omega,by omega,h5⟩
     ·exact absurd h (by decide)
   ·rename_i h3;exact absurd h h3
  ·exact absurd h (by decide)
theorem qf3 {α:Type}{p:α->Bool}{l:List α}{i:Nat}{x:α}(hx:l[i]?=some x)(hp:p x=true)(hn:((l.take i).any p)=false):l.find? p=some x:=by
 induction l generalizing i with
 |nil=>simp at hx
 |cons y r ih=>
  cases i with
  |zero=>
   simp at hx;subst hx;exact List.find?_cons_of_pos hp
  |succ j=>
   rw[List.take_succ_cons,List.any_cons,Bool.or_eq_false_iff]at hn;rw[List.find?_cons_of_neg (by rw[hn.1];decide)];exact ih (by simpa using hx) hn.2
theorem route_find {t:Tp3}(h: ∀i,i<t.routes.length->qaY t i=0){i:Nat}{r:Rt3}(hr:t.routes[i]?=some r):qbv t r=0/\qaR t r.id=some r:=by
 have h0:=h i (List.getElem?_eq_some_iff.1 hr).1;unfold qaY at h0;rw[hr]at h0;simp only at h0;by_cases he:qbv t r=0
 ·rw[if_pos he]at h0
  refine⟨he,qf3 hr (by simp) ?_⟩;by_cases ht:((t.routes.take i).any fun x=>x.id==r.id)=true
  ·rw[if_pos ht]at h0;exact absurd h0 (by decide)
  ·simpa using ht
 ·rw[if_neg he]at h0;exact absurd h0 he
end
end Go.Proofs.YtahadmeilajdgaaGreatDoor
