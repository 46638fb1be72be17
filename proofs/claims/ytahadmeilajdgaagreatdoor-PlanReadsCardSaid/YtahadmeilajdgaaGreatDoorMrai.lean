/-
  Our own text, joined.
-/
import Derived.Test.YtahadmeilajdgaaGreatDoorMrah
import Derived.BigQuiet
import Derived.IntWalk
import Derived.Test.YtahadmeilajdgaaGreatDoorMraa
import Derived.Test.YtahadmeilajdgaaGreatDoorMrag
import Derived.DeepKeys4
import Derived.Maps.OwnSet
import Derived.Maps.Range
namespace Go.Proofs.YtahadmeilajdgaaGreatDoor
set_option maxRecDepth 100000
set_option maxHeartbeats 8000000
section
open Go.RowKit
open Go.Great
theorem qdz (n a b:Int)(w:World):Calls Tryz.prog 101 #[.int .i64 n,.int .i64 a,.int .i64 b] w fun e w'=>e= .returned (.bool (qaq n a b))/\Below w.heap.size w w':=
 (qbH n a b w).mono fun _ _ ⟨h1,h2⟩=>⟨h1,by rw[h2];exact Below.refl _ _⟩
theorem idx_take {α:Type}{p:α->Bool}{l:List α}{k:Nat}{x:α}(hx:l[k]?=some x)(hp:p x=true):decide (idxL p l<(k:Int))=(l.take k).any p:=by
 unfold idxL
 rcases qbK p l 0 with⟨_,h2⟩|⟨j,y,h1,h2,h3,h4⟩
 ·rw[h2 k x hx]at hp;cases hp
 ·rw[h4,Bool.eq_iff_iff,decide_eq_true_eq,List.any_eq_true]
  constructor
  ·intro h
   exact⟨y,List.mem_of_getElem? (i:=j) (by rw[List.getElem?_take_of_lt (by omega)];exact h1),h2⟩
  ·rintro⟨z,hz,e⟩
   obtain⟨m,hm,rfl⟩:=List.getElem_of_mem hz;rw[List.length_take]at hm;rw[List.getElem_take]at e;have: ¬m<j:=fun hmj=>by
    rw[h3 m _ hmj (List.getElem?_eq_getElem (by omega))]at e
    cases e
   omega
theorem balE_w {t:Tp3}{i:Nat}{b:Bl3}(h:t.bals[i]?=some b):balE t i=if((qaq b.id 0 16777214 &&edgeB t b.edge) &&qaq b.at_ 0 (t.edges.getD b.edge.toNat 0))=true then(if((t.bals.take i).any fun x=>x.id==b.id)=true then 5 else 0)else 1:=by
 rw[balE_at h];unfold qaq;simp only[Bool.and_assoc]
theorem otcb_any (t:Tp3)(a:TpA)(i:Nat)(b:Bl3)(w:World)(ht:TopR w t a)(hl:t.edges.length<=100)(hbl:t.bals.length<=100)(hb:t.bals[i]?=some b):
  Calls Tryz.prog 103 #[.agg (tpC t a),.int .i64 i] w fun e w'=>e= .returned (.int .i64 (balE t i))/\Below w.heap.size w w':=by
 obtain⟨wa,hwa,hbwa,HWA,HBWA,h0⟩:=bx1Z w 27 (tpC t a);have hil:=(List.getElem?_eq_some_iff.1 hb).1;rw[balE_w hb];have hix:=idx_take (p:=fun y:Bl3=>y.id==b.id) hb (by simp);have HFB:=zq (fun W (hW:Below w.heap.size w W)=>qef t a b.id W (ht.under hW) (by omega));have HW1:=zq (fun W=>qdz b.id 0 16777214 W);have HED:=zq (fun W=>qeA t a b.edge W hl);have HW3:=zq (fun W=>qdz b.at_ 0 (t.edges.getD b.edge.toNat 0) W);obtain⟨nb,hnb⟩: ∃n,t.bals.length=n:=⟨_,rfl⟩
 obtain⟨AB,hAB⟩: ∃A,a.ab=A:=⟨_,rfl⟩
 have hbs:SlO blC 3 wa AB nb a.cb t.bals:=by rw[<-hAB,<-hnb];exact(ht.under hbwa).b
 obtain⟨bk,off,rfl,d0,d1,d2⟩:=hbs.bal hb;have c2:wa.cell? ⟨w.heap.size,2,none⟩=some (.slice (some ⟨bk,off,none⟩) nb a.cb):=by rw[<-hnb,<-hAB];exact h0.cell 2
 have HBA:=zq (fun W (hW:Below wa.heap.size wa W)=>hbwa.trans (hW.mono hbwa.size));have HH0:=zq h0;have HT:=zq ht;have y0:(0:Int)<=i:=by omega
 have y1:(i:Int)<nb:=by omega
 have HBX:=zq (show edgeB t b.edge=true->0<=b.edge/\b.edge<t.edges.length from fun h=>by unfold edgeB at h;simpa using h);obtain⟨R,hR⟩:=geZ (idxL (fun y:Bl3=>y.id==b.id) t.bals);rw[hR]at hix HFB;obtain⟨kk,hkk⟩: ∃x,((t.bals.take i).any fun y:Bl3=>y.id==b.id)=x:=⟨_,rfl⟩
 rw[hkk]at hix;have HIX:=zq hix;obtain⟨b1,hb1⟩: ∃x,qaq b.id 0 16777214=x:=⟨_,rfl⟩
 obtain⟨b2,hb2⟩: ∃x,edgeB t b.edge=x:=⟨_,rfl⟩
 obtain⟨q,hq⟩: ∃x,t.edges.getD b.edge.toNat 0=x:=⟨_,rfl⟩
 rw[hq]at HW3;obtain⟨b3,hb3⟩: ∃x,qaq b.at_ 0 q=x:=⟨_,rfl⟩
 rw[hkk,hb1,hb2,hq,hb3];rw[hb1]at HW1;rw[hb2]at HED HBX;rw[hb3]at HW3;have HQ:=zq hq;clear hwa hbwa h0 ht hl hbl hb hbs hil hnb hAB hix hR hkk hb1 hb2 hb3 hq;obtain⟨bi,be,ba⟩:=b;dsimp only at*;go_enter Tryz.func103,Tryz.ntmps103;go_upto_region 1 with fail;rw[HWA.out];clear HWA;go_upto_region 2 with fail;obtain⟨wb,hwb⟩:=geZ (wa.alloc (.cells #[.int .i64 bi,.int .i64 be,.int .i64 ba] 151));rw[hwb];have hbb:Below wa.heap.size wa wb:=by rw[<-hwb];exact bA
 have hX:Has wb wa.heap.size 151 #[.int .i64 bi,.int .i64 be,.int .i64 ba]:=by rw[<-hwb];exact Has.made _ _ _
 have HB0:=uH HH0 hbb;have HBB:=zq hbb;obtain⟨gb,hgb⟩: ∃g,wa.heap.size=g:=⟨_,rfl⟩
 rw[hgb]at hX;simp only[hgb];have HX:=zq hX;have HCE:Hid (∀W,Below wa.heap.size wa W->W.cell? ⟨w.heap.size,0,none⟩=some (.slice a.ae t.edges.length a.ce)):=zq fun W hW=>by
  have c_:wa.cell? ⟨w.heap.size,0,none⟩=some (.slice a.ae t.edges.length a.ce):=HH0.out.cell 0;exact(hW.cell (qag c_)).trans c_
 clear hwb hbb hX hgb d0 d1 d2 c2 HH0
 cases b1 with
 |false=>
  refine wp_region_held_drew (S:=(fun W_=>Has W_ (gb) 151 #[.int .i64 bi,.int .i64 be,.int .i64 ba]/\Has W_ (w.heap.size) 27 (tpC t a)/\Below wb.heap.size wb W_)) (by kernel_rfl) ?_ (fun hHeld=>?_)
  ·exact⟨HX.out.draw,HB0.out.draw,qah (Below.refl _ _)⟩
  refine tkZ 0 12 (h:=?_);simp only[lyZ];refine tqZ 1 13 (fun w_ hSw=>(show w_.cell? ⟨gb,0,none⟩=some (.int .i64 bi:Value)from hSw.1.cell 0)) (h:=?_);simp only[lyZ];refine rdZ [2] ?_;refine acZ (some 14) (fun K hK=>?_) ?_
  ·go_simp
   obtain⟨s0,s1,s2⟩:=hHeld;refine(HW1.out _).mono ?_;rintro e_ v1 ⟨rfl,hbs⟩;go_wp2_with fail;refine hK.out _ _ ?_ (fun hHeld=>?_)
   ·exact⟨s0.u hbs,s1.u hbs,bu s2 hbs⟩
   clear hK K s0 s1 s2
   try simp only[lyZ]
   refine tkZ 3 15 (h:=?_);simp only[lyZ];refine tkZ 4 16 (h:=?_);simp only[lyZ];refine skZ 5 17 (h:=?_);simp only[lyZ];refine skZ 6 18 (h:=?_);simp only[lyZ];refine skZ 7 19 (h:=?_);simp only[lyZ];refine skZ 8 20 (h:=?_);simp only[lyZ];refine skZ 9 21 (h:=?_);simp only[lyZ];refine tkZ 10 22 (h:=?_);simp only[lyZ];refine tkZ 11 23 (h:=?_);simp only[lyZ];refine skZ 12 24 (h:=?_);simp only[lyZ];refine skZ 13 25 (h:=?_);simp only[lyZ];refine skZ 14 26 (h:=?_);simp only[lyZ];refine skZ 15 27 (h:=?_);simp only[lyZ];refine skZ 16 28 (h:=?_);simp only[lyZ];refine skZ 17 29 (h:=?_);simp only[lyZ];refine skZ 18 30 (h:=?_);simp only[lyZ];refine skZ 19 31 (h:=?_);simp only[lyZ];refine skZ 20 32 (h:=?_);simp only[lyZ];refine skZ 21 33 (h:=?_);simp only[lyZ];refine tkZ 22 34 (h:=?_);simp only[lyZ];refine tkZ 23 11 (h:=?_);simp only[lyZ];refine dnZ ?_;have HE:=zq (HBA.out _ (HBB.out.trans (hHeld.2.2.mono HBB.out.size)));clear hHeld;go_wp2;go_ret
   exact⟨rfl,HE.out⟩
  exact AllReadyH.nil
 |true=>
  cases b2 with
  |false=>
   refine wp_region_held_drew (S:=(fun W_=>Has W_ (gb) 151 #[.int .i64 bi,.int .i64 be,.int .i64 ba]/\Has W_ (w.heap.size) 27 (tpC t a)/\Below wb.heap.size wb W_)) (by kernel_rfl) ?_ (fun hHeld=>?_)
   ·exact⟨HX.out.draw,HB0.out.draw,qah (Below.refl _ _)⟩
   refine tkZ 0 12 (h:=?_);simp only[lyZ];refine tqZ 1 13 (fun w_ hSw=>(show w_.cell? ⟨gb,0,none⟩=some (.int .i64 bi:Value)from hSw.1.cell 0)) (h:=?_);simp only[lyZ];refine rdZ [2] ?_;refine acZ (some 14) (fun K hK=>?_) ?_
   ·go_simp
    obtain⟨s0,s1,s2⟩:=hHeld;refine(HW1.out _).mono ?_;rintro e_ v1 ⟨rfl,hbs⟩;go_wp2_with fail;refine hK.out _ _ ?_ (fun hHeld=>?_)
    ·exact⟨s0.u hbs,s1.u hbs,bu s2 hbs⟩
    clear hK K s0 s1 s2
    try simp only[lyZ]
    refine tkZ 3 15 (h:=?_);simp only[lyZ];refine tkZ 4 16 (h:=?_);simp only[lyZ];refine tlZ 5 17 w.heap.size (tpC t a) (fun _ ⟨_,h_,_⟩=>h_) (h:=?_);simp only[lyZ];refine tkZ 6 18 (h:=?_);simp only[lyZ];refine tqZ 7 19 (fun w_ hSw=>(show w_.cell? ⟨gb,1,none⟩=some (.int .i64 be:Value)from hSw.1.cell 1)) (h:=?_);simp only[lyZ];refine rdZ [8] ?_;refine acZ (some 20) (fun K hK=>?_) ?_
    ·go_simp
     obtain⟨s0,s1,s2⟩:=hHeld;refine(HED.out _).mono ?_;rintro e_ v2 ⟨rfl,hbs⟩;go_wp2_with fail;refine hK.out _ _ ?_ (fun hHeld=>?_)
     ·exact⟨s0.u hbs,s1.u hbs,bu s2 hbs⟩
     clear hK K s0 s1 s2
     try simp only[lyZ]
     refine tkZ 9 21 (h:=?_);simp only[lyZ];refine tkZ 10 22 (h:=?_);simp only[lyZ];refine tkZ 11 23 (h:=?_);simp only[lyZ];refine skZ 12 24 (h:=?_);simp only[lyZ];refine skZ 13 25 (h:=?_);simp only[lyZ];refine skZ 14 26 (h:=?_);simp only[lyZ];refine skZ 15 27 (h:=?_);simp only[lyZ];refine skZ 16 28 (h:=?_);simp only[lyZ];refine skZ 17 29 (h:=?_);simp only[lyZ];refine skZ 18 30 (h:=?_);simp only[lyZ];refine skZ 19 31 (h:=?_);simp only[lyZ];refine skZ 20 32 (h:=?_);simp only[lyZ];refine skZ 21 33 (h:=?_);simp only[lyZ];refine tkZ 22 34 (h:=?_);simp only[lyZ];refine tkZ 23 11 (h:=?_);simp only[lyZ];refine dnZ ?_;have HE:=zq (HBA.out _ (HBB.out.trans (hHeld.2.2.mono HBB.out.size)));clear hHeld;go_wp2;go_ret
     exact⟨rfl,HE.out⟩
    exact AllReadyH.nil
   exact AllReadyH.nil
  |true=>
   have hed:=HBX.out (by first|rfl|trivial);obtain⟨en,hen⟩: ∃e:Nat,be=e:=⟨be.toNat,by omega⟩
   have hel:en<t.edges.length:=by omega
   obtain⟨bke,oe,hae,ce⟩:=(HT.out.under (HBA.out wa (Below.refl _ _))).e.edge hel;have hqq:t.edges.getD en 0=q:=by rw[<-HQ.out,hen];rfl
   rw[hqq]at ce;obtain⟨ne,hne⟩: ∃n,t.edges.length=n:=⟨_,rfl⟩
   have HCE2:Hid (∀W,Below wa.heap.size wa W->W.cell? ⟨w.heap.size,0,none⟩=some (.slice (some ⟨bke,oe,none⟩) ne a.ce)):=zq fun W hW=>by rw[<-hae,<-hne];exact HCE.out W hW
   have HCQ:=zq (fun W (hW:Below wa.heap.size wa W)=>(hW.cell (qag ce)).trans ce);have y2:(0:Int)<=en:=by omega
   have y3:(en:Int)<ne:=by omega
   subst hen;clear hed hel hae ce hqq hne HCE HBX HQ;refine wp_region_held_drew (S:=(fun W_=>Has W_ (gb) 151 #[.int .i64 bi,.int .i64 (en:Nat),.int .i64 ba]/\Has W_ (w.heap.size) 27 (tpC t a)/\Below wb.heap.size wb W_)) (by kernel_rfl) ?_ (fun hHeld=>?_)
   ·exact⟨HX.out.draw,HB0.out.draw,qah (Below.refl _ _)⟩
   refine tkZ 0 12 (h:=?_);simp only[lyZ];refine tqZ 1 13 (fun w_ hSw=>(show w_.cell? ⟨gb,0,none⟩=some (.int .i64 bi:Value)from hSw.1.cell 0)) (h:=?_);simp only[lyZ];refine rdZ [2] ?_;refine acZ (some 14) (fun K hK=>?_) ?_
   ·go_simp
    obtain⟨s0,s1,s2⟩:=hHeld;refine(HW1.out _).mono ?_;rintro e_ v1 ⟨rfl,hbs⟩;go_wp2_with fail;refine hK.out _ _ ?_ (fun hHeld=>?_)
    ·exact⟨s0.u hbs,s1.u hbs,bu s2 hbs⟩
    clear hK K s0 s1 s2
    try simp only[lyZ]
    refine tkZ 3 15 (h:=?_);simp only[lyZ];refine tkZ 4 16 (h:=?_);simp only[lyZ];refine tlZ 5 17 w.heap.size (tpC t a) (fun _ ⟨_,h_,_⟩=>h_) (h:=?_);simp only[lyZ];refine tkZ 6 18 (h:=?_);simp only[lyZ];refine tqZ 7 19 (fun w_ hSw=>(show w_.cell? ⟨gb,1,none⟩=some (.int .i64 (en:Nat):Value)from hSw.1.cell 1)) (h:=?_);simp only[lyZ];refine rdZ [8] ?_;refine acZ (some 20) (fun K hK=>?_) ?_
    ·go_simp
     obtain⟨s0,s1,s2⟩:=hHeld;refine(HED.out _).mono ?_;rintro e_ v2 ⟨rfl,hbs⟩;go_wp2_with fail;refine hK.out _ _ ?_ (fun hHeld=>?_)
     ·exact⟨s0.u hbs,s1.u hbs,bu s2 hbs⟩
     clear hK K s0 s1 s2
     try simp only[lyZ]
     refine tkZ 9 21 (h:=?_);simp only[lyZ];refine tkZ 10 22 (h:=?_);simp only[lyZ];refine tkZ 11 23 (h:=?_);simp only[lyZ];refine tkZ 12 24 (h:=?_);simp only[lyZ];refine tqZ 13 25 (fun w_ hSw=>(show w_.cell? ⟨gb,2,none⟩=some (.int .i64 ba:Value)from hSw.1.cell 2)) (h:=?_);simp only[lyZ];refine tkZ 14 26 (h:=?_);simp only[lyZ];refine tqZ 15 27 (fun w_ hSw=>(show w_.cell? ⟨w.heap.size,0,none⟩=some (.slice (some ⟨bke,oe,none⟩) ne a.ce:Value)from HCE2.out w_ (HBB.out.trans (hSw.2.2.mono HBB.out.size)))) (h:=?_);simp only[lyZ];refine tkZ 16 28 (h:=?_);simp only[lyZ];refine tqZ 17 29 (fun w_ hSw=>(show w_.cell? ⟨gb,1,none⟩=some (.int .i64 (en:Nat):Value)from hSw.1.cell 1)) (h:=?_);simp only[lyZ];refine tkZ 18 30 (h:=?_);simp only[lyZ];refine tqZ 19 31 (fun w_ hSw=>HCQ.out w_ (HBB.out.trans (hSw.2.2.mono HBB.out.size))) (h:=?_);simp only[lyZ];refine rdZ [20] ?_;refine acZ (some 32) (fun K hK=>?_) ?_
     ·go_simp
      obtain⟨s0,s1,s2⟩:=hHeld;refine(HW3.out _).mono ?_;rintro e_ v3 ⟨rfl,hbs⟩;go_wp2_with fail;refine hK.out _ _ ?_ (fun hHeld=>?_)
      ·exact⟨s0.u hbs,s1.u hbs,bu s2 hbs⟩
      clear hK K s0 s1 s2
      try simp only[lyZ]
      refine tkZ 21 33 (h:=?_);simp only[lyZ];refine tkZ 22 34 (h:=?_);simp only[lyZ];refine tkZ 23 11 (h:=?_);simp only[lyZ];refine dnZ ?_;have HS:=zq hHeld;clear hHeld y2 y3
      cases b3 with
      |false=>
       have HE:=zq (HBA.out _ (HBB.out.trans (HS.out.2.2.mono HBB.out.size)));go_wp2;go_ret
       exact⟨rfl,HE.out⟩
      |true=>
       have HE:=zq (HBA.out _ (HBB.out.trans (HS.out.2.2.mono HBB.out.size)));have z0:=HS.out.1.cell 0;have z0':World.cell? v3 ⟨gb,0,none⟩=some (.int .i64 bi):=z0;have HF:=zq (HFB.out v3 HE.out);go_upto_region 4 with fail;go_wp2_with (with_reducible refine ldZ 36 HS.out.2.1 ?_);refine HF.out.mono ?_;rintro e v4 ⟨rfl,hb4⟩;have HB4:=tB HE hb4;have hlt:=HIX.out;clear hb4 HF z0 z0'
       cases kk with
       |true=>
        have hlt2:R<(i:Int):=by simpa using hlt
        clear hlt;go_wp2;go_ret
        exact⟨rfl,HB4.out⟩
       |false=>
        have hlt2: ¬R<(i:Int):=by simpa using hlt
        clear hlt;go_wp2;go_ret
        exact⟨rfl,HB4.out⟩
     exact AllReadyH.nil
    exact AllReadyH.nil
   exact AllReadyH.nil
end
section
open Go.RowKit
open Go.Maps (Keyed has IsMap)
theorem laid13:laidOutB Tryz.prog=true:=by kernel_rfl
theorem row_st13:(30:TypeId)<Tryz.prog.types.size:=of_decide_eq_true (by kernel_rfl)
theorem wide_st13:(match Tryz.prog.underlying 30 with|some (.array _ _)|some (.struct _)=>true|_=>false)=true:=by kernel_rfl
theorem size_st13:1<=Tryz.prog.types.size:=of_decide_eq_true (by kernel_rfl)
theorem qds:Tryz.prog.cellsOf 30=2:=by kernel_rfl
theorem qf8:Tryz.prog.keyType 30=true:=by kernel_rfl
theorem qdc:Keyed Tryz.prog 30:=Keyed.of_law (deep_law_laid laid13 (m:=3) (by omega) row_st13 (by kernel_rfl) wide_st13)
def wfS (s:St3):Prop:=(Lit.int .i64 s.edge).wf=true
def stK (s:St3):Lit:= .string (keyBytes [.int .i64 s.edge,.bool s.rev])
theorem lits_st13 (d:Nat)(n:Int)(b:Bool)(h:(Lit.int .i64 n).wf=true):Tryz.prog.keyLits (d+2) 30 [.int .i64 n,.bool b]=some [.int .i64 n,.bool b]:=by
 have kI:Tryz.prog.cellsOf 3=1:=by kernel_rfl
 have kB:Tryz.prog.cellsOf 4=1:=by kernel_rfl
 simp[Program.keyLits,Tryz.underlying30,Tryz.underlying3,Tryz.underlying4,qds,kI,kB,h]
theorem qcX {s:St3}(h:wfS s):keyOf Tryz.prog 30 (.agg (stA13 s))=some (stK s):=by
 obtain⟨d,hd⟩: ∃d,Tryz.prog.types.size+1=d+2:=⟨Tryz.prog.types.size-1,by have:=size_st13;omega⟩
 have hf:(Value.agg (stA13 s)).formed Tryz.prog 30=true:=by
  simp[Value.formed,Tryz.underlying30,qds,stA13]
 unfold keyOf;rw[Tryz.underlying30];simp only[qf8,hf,Bool.and_self,if_true,hd];rw[show(Value.agg (stA13 s)).cells.toList=[.int .i64 s.edge,.bool s.rev]from rfl,lits_st13 d _ _ h]
 rfl
theorem qeV {v:Value}{kl:Lit}(h:keyOf Tryz.prog 30 v=some kl): ∃s,v= .agg (stA13 s)/\wfS s/\kl=stK s:=by
 have kI:Tryz.prog.cellsOf 3=1:=by kernel_rfl
 have kB:Tryz.prog.cellsOf 4=1:=by kernel_rfl
 have h0:=h;obtain⟨d,hd⟩: ∃d,Tryz.prog.types.size+1=d+2:=⟨Tryz.prog.types.size-1,by have:=size_st13;omega⟩
 unfold keyOf at h;rw[Tryz.underlying30]at h;simp only[qf8,Bool.true_and,hd]at h;split at h
 ·rename_i hf
  cases v with
  |agg cs=>
   simp[Value.formed,Tryz.underlying30,qds]at hf;obtain⟨cl⟩:=cs
   match cl,hf with
   |[v0,v1],_=>
    have he:(Value.agg #[v0,v1]).cells.toList=[v0,v1]:=rfl;rw[he]at h;simp only[Program.keyLits,Tryz.underlying30,qds,List.length_cons,List.length_nil]at h
    cases v0 with
    |int k n=>
     cases v1 with
     |bool c=>
      by_cases hw:k= .i64/\(Lit.int .i64 n).wf=true
      ·simp[Tryz.underlying3,Tryz.underlying4,kI,kB,hw]at h
       obtain⟨rfl,hw⟩:=hw;exact⟨⟨n,c⟩,rfl,hw,h.symm⟩
      ·simp[Tryz.underlying3,Tryz.underlying4,kI,kB,hw]at h
     |_=>simp[Tryz.underlying3,Tryz.underlying4,kI,kB]at h
    |_=>simp[Tryz.underlying3,Tryz.underlying4,kI,kB]at h
  |_=>simp[Value.formed,Tryz.underlying30]at hf
 ·cases h
theorem stK_inj {a b:St3}(ha:wfS a)(hb:wfS b)(h:stK a=stK b):a=b:=by
 have:=qdc.inj (qcX ha) (by rw[h];exact qcX hb);obtain⟨a1,a2⟩:=a;obtain⟨b1,b2⟩:=b;unfold stA13 at this;simp at this;obtain⟨rfl,rfl⟩:=this
 rfl
theorem stK_key {a:St3}(ha:wfS a):WideAt.IsKeyLit (stK a):=qdc.key (qcX ha)
theorem stK_same {a b:St3}(ha:wfS a)(hb:wfS b):(stK a).sameKey (stK b)=eqS a b:=by
 cases h:(stK a).sameKey (stK b)with
 |true=>
  have:=stK_inj ha hb (WideAt.sameKey_eq h);exact((qaI a b).2 this).symm
 |false=>
  cases h2:eqS a b with
  |false=>rfl
  |true=>
   rw[qaI]at h2;subst h2;rw[WideAt.sameKey_self (stK_key ha)]at h
   cases h
theorem wfS_of {t:Tp3}{s:St3}(h:edgeB t s.edge=true)(hl:t.edges.length<=100):wfS s:=by
 unfold edgeB at h;simp only[Bool.and_eq_true,decide_eq_true_eq]at h;show(decide (IntKind.i64.min<=s.edge) &&decide (s.edge<=IntKind.i64.max))=true
 rw[Bool.and_eq_true,decide_eq_true_eq,decide_eq_true_eq];exact(show -9223372036854775808<=s.edge/\s.edge<=9223372036854775807 by omega)
structure SetM (D:DataW Unit) (p:St3->Bool):Prop where
 map:IsMap D
 tr: ∀kl,D.atKey kl (.lit (.bool false))= .lit (.bool (has D kl))
 mem: ∀x,wfS x->has D (stK x)=p x
theorem SetM.empty:SetM (.map []) fun _=>false:=⟨Go.Maps.isMap_empty,fun _=>rfl,fun _ _=>rfl⟩
theorem SetM.put {D:DataW Unit}{p:St3->Bool}(h:SetM D p){y:St3}(hy:wfS y):SetM (D.put (stK y) (.lit (.bool true))) fun x=>p x||eqS y x:=by
 refine⟨h.map.put _ _,fun kl=>?_,fun x hx=>?_⟩
 ·by_cases e:kl=stK y
  ·subst e
   rw[Go.Maps.atKey_put_same h.map (stK_key hy),Go.Maps.has_put_same h.map (stK_key hy)]
  ·rw[Go.Maps.atKey_put_other e,Go.Maps.has_put_other e,h.tr]
 ·by_cases e:y=x
  ·subst e
   rw[Go.Maps.has_put_same h.map (stK_key hy),(qaI _ _).2 rfl,Bool.or_true]
  ·have e2:eqS y x=false:=by
    cases h2:eqS y x with
    |false=>rfl
    |true=>exact absurd ((qaI _ _).1 h2) e
   rw[Go.Maps.has_put_other (fun he=>e (stK_inj hy hx he.symm)),h.mem x hx,e2,Bool.or_false]
theorem SetM.is {D:DataW Unit}{p q:St3->Bool}(h:SetM D p)(e: ∀x,p x=q x):SetM D q:=⟨h.map,h.tr,fun x hx=>by rw[h.mem x hx,e]⟩
end
section
open Go.RowKit
open Go.Great
def folJ (t:Tp3)(s x:St3)(j:Jt3):Bool:=connB t j &&((eqS (lvS j.a) s &&eqS (enS j.b) x)||(eqS (lvS j.b) s &&eqS (enS j.a) x))
def folUp (t:Tp3)(s:St3)(i:Nat)(x:St3):Bool:=(t.joints.take i).any (folJ t s x)
def folB (t:Tp3)(s x:St3):Bool:=t.joints.any (folJ t s x)
theorem folUp_succ {t:Tp3}{s:St3}{i:Nat}{j:Jt3}(hj:t.joints[i]?=some j)(x:St3):folUp t s (i+1) x=(folUp t s i x||folJ t s x j):=by
 unfold folUp;rw[List.take_add_one,hj,List.any_append];simp
theorem folUp_all {t:Tp3}{s:St3}{i:Nat}(h:t.joints.length<=i)(x:St3):folUp t s i x=folB t s x:=by
 unfold folUp folB;rw[List.take_of_length_le h]
theorem conn_wf {t:Tp3}{j:Jt3}(h:connB t j=true)(hl:t.edges.length<=100):wfS (enS j.a)/\wfS (enS j.b):=by
 unfold connB endB at h;simp only[Bool.and_eq_true]at h;exact⟨wfS_of (s:=enS j.a) h.1.1 hl,wfS_of (s:=enS j.b) h.2.1 hl⟩
theorem otfol_any (t:Tp3)(a:TpA)(s:St3)(w:World)(ht:TopR w t a)(hl:t.edges.length<=100)(hj:t.joints.length<=1048576):
  Calls Tryz.prog 96 #[.agg (tpC t a),.agg (stA13 s)] w fun e w'=> ∃(bm n:Nat) (D:DataW Unit),e= .returned (.map (some bm))/\n<=2*t.joints.length/\Hid (w'.ownsMap Tryz.prog 30 (plainElem Tryz.prog 4) bm n D)/\Hid (SetM D (folB t s))/\Hid (w.heap.size<=bm)/\Below w.heap.size w w':=by
 obtain⟨wa,hwa,hbwa,HWA,HBWA,h0,h1⟩:=bx2Z w 27 (tpC t a) 30 (stA13 s);have HSZ:Hid (wa.heap.size=w.heap.size+2):=zq (by rw[<-hwa];simp);have HT:=zq ht;have H0:=zq h0;have H1:=zq h1;obtain⟨nj,hnj⟩: ∃n,t.joints.length=n:=⟨_,rfl⟩
 have HNJ:=zq hnj;have HL:=zq hl;rw[hnj]at hj⊢;clear hwa hbwa h0 h1 ht hnj hl;have hmm:= @run_makeMap Tryz.prog;go_enter Tryz.func96,Tryz.ntmps96;go_upto_region 1 with fail;rw[HWA.out];clear HWA;go_upto_region 2 with fail;obtain⟨bm,hbm⟩:=geZ (wa.heap.size);obtain⟨wm,hwm⟩:=geZ (wa.alloc (.map #[] 0));rw[hwm,hbm];clear hmm;have ho:wm.ownsMap Tryz.prog 30 (plainElem Tryz.prog 4) bm 0 (.map []:DataW Unit):=by rw[<-hwm,<-hbm];exact World.ownsMap_made _ _ _ _
 have hbmm:Below wa.heap.size wa wm:=by rw[<-hwm];exact bA
 have HBM:=tB HBWA hbmm;have HM0:=uH H0 hbmm;have HM1:=uH H1 hbmm;have HBE:Hid (bm=w.heap.size+2):=zq (by rw[<-hbm];exact HSZ.out);have HMS:Hid (wm.heap.size=bm+1):=zq (by rw[<-hwm,<-hbm];simp);have HO:=zq ho;obtain⟨AJ,hAJ⟩: ∃A,a.aj=A:=⟨_,rfl⟩
 have HTJ:Hid (SlO jtC 4 w AJ nj a.cj t.joints):=zq (by rw[<-hAJ,<-HNJ.out];exact HT.out.j);have c1:wm.cell? ⟨w.heap.size,1,none⟩=some (.slice AJ nj a.cj):=by rw[<-HNJ.out,<-hAJ];exact HM0.out.cell 1
 clear hAJ;clear ho hbmm hwm hbm H0 H1 HBWA HSZ;go_wp2;go_loopg [12] nj (fun kk v wl=> ∃(i n:Nat) (D:DataW Unit),i<=nj/\nj-i<=kk/\v= .int .i64 i/\n<=2*i/\Hid (wl.ownsMap Tryz.prog 30 (plainElem Tryz.prog 4) bm n D)/\Hid (SetM D (folUp t s i))/\Hid (wm.grownBy wl (some bm)))
 case atStart=>exact⟨0,0,.map [],by omega,by omega,rfl,by omega,HO,zq (SetM.empty.is fun x=>by unfold folUp;rw[List.take_zero];rfl),zq (qbB _ _)⟩
 obtain⟨i,n,D,hi,hik,rfl,hn,HOW,HSE,HG⟩:=hrel;clear HO c1;obtain⟨w0,hw0⟩: ∃w0,w0=wr:=⟨_,rfl⟩
 subst hw0;have HBL:Hid (Below w.heap.size w w0):=zq (qan HBM.out HG.out HBM.out.size (by have:=HBE.out;omega));by_cases hlt:i<nj;rotate_left
 ·have y1: ¬(i:Int)<nj:=by omega
  have HSF:Hid (SetM D (folB t s)):=zq (HSE.out.is fun x=>folUp_all (by rw[HNJ.out];omega) x);have HLE:Hid (w.heap.size<=bm):=zq (by have:=HBE.out;omega);have hnn:n<=2*nj:=by omega
  go_wp2;go_ret
  exact⟨bm,rfl,n,hnn,D,HOW,HSF,HLE,HBL.out⟩
 obtain⟨j,hj'⟩: ∃j,t.joints[i]?=some j:=⟨_,List.getElem?_eq_getElem (by rw[HNJ.out];exact hlt)⟩
 have HFS:=zq (fun x=>folUp_succ (s:=s) hj' x);obtain⟨bk,off,rfl,d0,d1,d2,d3⟩:=(HTJ.out.under HBL.out).joint hj';have y0:(0:Int)<=i:=by omega
 have y1:(i:Int)<nj:=by omega
 obtain⟨cn,hcn⟩: ∃b,connB t j=b:=⟨_,rfl⟩
 obtain⟨p1,hp1⟩: ∃b,eqS (lvS j.a) s=b:=⟨_,rfl⟩
 obtain⟨p2,hp2⟩: ∃b,eqS (lvS j.b) s=b:=⟨_,rfl⟩
 have q1:=eql_st13 (lvS j.a) s;have q2:=eql_st13 (lvS j.b) s;rw[hp1]at q1;rw[hp2]at q2;have HFJ:Hid (∀x,folJ t s x j=(cn &&((p1 &&eqS (enS j.b) x)||(p2 &&eqS (enS j.a) x)))):=zq fun x=>by unfold folJ;rw[hcn,hp1,hp2]
 have HWF:Hid (cn=true->wfS (enS j.a)/\wfS (enS j.b)):=zq fun h=>conn_wf (by rw[hcn];exact h) HL.out;have HCN:=zq (fun W=>qgg t a j W HL.out);rw[hcn]at HCN;clear hcn hp1 hp2 hj';obtain⟨⟨j1,j2⟩,⟨j3,j4⟩⟩:=j;unfold jtA at HCN;dsimp only at*;have HL1:=zq (fun W=>otlv_any (j1,j2) W);have HL2:=zq (fun W=>otlv_any (j3,j4) W);have HE1:=zq (fun W=>oten_any (j3,j4) W);have HE2:=zq (fun W=>oten_any (j1,j2) W);unfold endA at HL1 HL2 HE1 HE2;dsimp only at HL1 HL2 HE1 HE2;go_upto_region 5 with fail;obtain⟨wb,hwb⟩:=geZ (w0.alloc (.cells #[.int .i64 j1,.int .i64 j2,.int .i64 j3,.int .i64 j4] 149));rw[hwb];have hbb:Below w0.heap.size w0 wb:=by rw[<-hwb];exact bA
 have hX:Has wb w0.heap.size 149 #[.int .i64 j1,.int .i64 j2,.int .i64 j3,.int .i64 j4]:=by rw[<-hwb];exact Has.made _ _ _
 have HBB:=zq hbb;have HX:=zq hX;have HLT:Hid (bm<w0.heap.size):=zq HOW.out.lt;have HK0:=zq ((HM0.out.grow HG.out (by have:=HBE.out;intro e;injection e with e;omega)).under hbb (HM0.out.grow HG.out (by have:=HBE.out;intro e;injection e with e;omega)).lt);have HK1:=zq ((HM1.out.grow HG.out (by have:=HBE.out;intro e;injection e with e;omega)).under hbb (HM1.out.grow HG.out (by have:=HBE.out;intro e;injection e with e;omega)).lt);clear hwb hbb hX d0 d1 d2 d3;go_wp2_with (first|(with_reducible refine ldZ 16 HK0.out ?_)|(with_reducible refine ldZ 17 HX.out ?_));refine(HCN.out _).mono ?_;rintro e w2 ⟨rfl,hb2⟩;have HX2:=uH HX hb2;have HS2:=uH HK1 hb2;have HB2:=tB HBB hb2;clear hb2 HK0 HK1 HX HBB HCN
 cases cn with
 |false=>
  have HO2:Hid (w2.ownsMap Tryz.prog 30 (plainElem Tryz.prog 4) bm n D):=zq (HOW.out.kept (qaL HB2.out (Nat.le_refl _) none) (by simp));have HG2:Hid (wm.grownBy w2 (some bm)):=zq (qap HG.out (qaL HB2.out (Nat.le_refl _) _));have HSN:Hid (SetM D (folUp t s (i+1))):=zq (HSE.out.is fun x=>by rw[HFS.out,HFJ.out];simp);clear q1 q2;go_wp2;go_roundg (gk-1)
  case measure=>omega
  case rel=>exact⟨i+1,n,D,by omega,by omega,by go_num,by omega,HO2,HSN,HG2⟩
 |true=>
  have HWE:=zq (HWF.out (by first|rfl|trivial));clear HWF;go_upto_region 6 with fail;have H8:=zq (⟨HX2.out,HS2.out⟩:_/\_);clear HX2 HS2;refine wp_region_held_drew (S:=(fun W_=>Has W_ (w0.heap.size) 149 #[.int .i64 j1,.int .i64 j2,.int .i64 j3,.int .i64 j4]/\Has W_ (w.heap.size+1) 30 (stA13 s)/\Below w2.heap.size w2 W_)) (by kernel_rfl) ?_ (fun hHeld=>?_)
  ·exact⟨H8.out.1.draw,H8.out.2.draw,qah (Below.refl _ _)⟩
  refine tkZ 0 20 (h:=?_);simp only[lyZ];refine tqZ 1 21 (fun w_ hSw=>And.intro ((show w_.cell? ⟨w0.heap.size,0,none⟩=some (.int .i64 j1:Value)from hSw.1.cell 0)) ((show w_.cell? ⟨w0.heap.size,1,none⟩=some (.int .i64 j2:Value)from hSw.1.cell 1))) (h:=?_);simp only[lyZ];refine tlZ 3 23 (w.heap.size+1) (stA13 s) (fun _ ⟨_,h_,_⟩=>h_) (h:=?_);simp only[lyZ];refine rdZ [2] ?_;refine acZ (some 22) (fun K hK=>?_) ?_
  ·go_simp
   obtain⟨s0,s1,s2⟩:=hHeld;refine(HL1.out _).mono ?_;rintro e_ v3 ⟨rfl,hbs⟩;go_wp2_with fail;refine hK.out _ _ ?_ (fun hHeld=>?_)
   ·exact⟨s0.u hbs,s1.u hbs,bu s2 hbs⟩
   clear hK K s0 s1 s2
   try simp only[lyZ]
   refine wpAnyH_take (i:=4) (oi:=⟨some 24,_,_,_,_,_⟩) (v:= .bool p1) rfl (by kernel_rfl) (by kernel_rfl) (by kernel_rfl) (fun _ _ _ h=>h) (qbo .eql 30 _ _ _ rfl _ _ rfl rfl qcH _ q1 (by rfl)) (by assumption) ?_;simp only[lyZ];refine dnZ ?_;have H3:=zq hHeld;clear hHeld H8;have HB3:=zq (HB2.out.trans (H3.out.2.2.mono HB2.out.size));have HO3:Hid (v3.ownsMap Tryz.prog 30 (plainElem Tryz.prog 4) bm n D):=zq (HOW.out.kept (qaL HB3.out (Nat.le_refl _) none) (by simp));have HG3:Hid (wm.grownBy v3 (some bm)):=zq (qap HG.out (qaL HB3.out (Nat.le_refl _) _));clear HOW HG HB2
   cases p1 with
   |false=>
    have HS8:Hid (SetM D fun x=>folUp t s i x||(false &&eqS (enS (j3,j4)) x)):=zq (HSE.out.is fun x=>by simp);have H8:=zq (⟨H3.out.1,H3.out.2.1⟩:_/\_);have hn8:n<=2*i+1:=by omega
    obtain⟨v8,hv8⟩: ∃v,v=v3:=⟨_,rfl⟩
    subst hv8;obtain⟨n8,hne⟩: ∃n',n'=n:=⟨_,rfl⟩
    subst hne;obtain⟨D8,hde⟩: ∃D',D'=D:=⟨_,rfl⟩
    subst hde;have HO8:=HO3;have HG8:=HG3;clear HO3 HG3 H3 HSE HB3;go_upto_region 8 with fail;refine wp_region_held_drew (S:=(fun W_=>Has W_ (w0.heap.size) 149 #[.int .i64 j1,.int .i64 j2,.int .i64 j3,.int .i64 j4]/\Has W_ (w.heap.size+1) 30 (stA13 s)/\Below v8.heap.size v8 W_)) (by kernel_rfl) ?_ (fun hHeld=>?_)
    ·exact⟨H8.out.1.draw,H8.out.2.draw,qah (Below.refl _ _)⟩
    refine tkZ 0 29 (h:=?_);simp only[lyZ];refine tqZ 1 30 (fun w_ hSw=>And.intro ((show w_.cell? ⟨w0.heap.size,2,none⟩=some (.int .i64 j3:Value)from hSw.1.cell 2)) ((show w_.cell? ⟨w0.heap.size,3,none⟩=some (.int .i64 j4:Value)from hSw.1.cell 3))) (h:=?_);simp only[lyZ];refine tlZ 3 32 (w.heap.size+1) (stA13 s) (fun _ ⟨_,h_,_⟩=>h_) (h:=?_);simp only[lyZ];refine rdZ [2] ?_;refine acZ (some 31) (fun K hK=>?_) ?_
    ·go_simp
     obtain⟨s0,s1,s2⟩:=hHeld;refine(HL2.out _).mono ?_;rintro e_ v7 ⟨rfl,hbs⟩;go_wp2_with fail;refine hK.out _ _ ?_ (fun hHeld=>?_)
     ·exact⟨s0.u hbs,s1.u hbs,bu s2 hbs⟩
     clear hK K s0 s1 s2
     try simp only[lyZ]
     refine wpAnyH_take (i:=4) (oi:=⟨some 33,_,_,_,_,_⟩) (v:= .bool p2) rfl (by kernel_rfl) (by kernel_rfl) (by kernel_rfl) (fun _ _ _ h=>h) (qbo .eql 30 _ _ _ rfl _ _ rfl rfl qcH _ q2 (by rfl)) (by assumption) ?_;simp only[lyZ];refine dnZ ?_;have H9:=zq hHeld;clear hHeld H8;have HO9:Hid (v7.ownsMap Tryz.prog 30 (plainElem Tryz.prog 4) bm n8 D8):=zq (HO8.out.kept (qaL H9.out.2.2 (Nat.le_refl _) none) (by simp));have HG9:Hid (wm.grownBy v7 (some bm)):=zq (qap HG8.out (qaL H9.out.2.2 (Nat.le_refl _) _));clear HO8 HG8
     cases p2 with
     |false=>
      have HSN:Hid (SetM D8 (folUp t s (i+1))):=zq (HS8.out.is fun x=>by rw[HFS.out,HFJ.out];simp);clear q1 q2;go_wp2;go_roundg (gk-1)
      case measure=>omega
      case rel=>exact⟨i+1,n8,D8,by omega,by omega,by go_num,by omega,HO9,HSN,HG9⟩
     |true=>
      have e0:v7.cell? ⟨w0.heap.size,0,none⟩=some (.int .i64 j1):=H9.out.1.cell 0;have e1:v7.cell? ⟨w0.heap.size,1,none⟩=some (.int .i64 j2):=H9.out.1.cell 1;clear q1 q2;go_wp2_with fail;refine(HE2.out _).mono ?_;rintro e v10 ⟨rfl,hb10⟩;have HO10:Hid (v10.ownsMap Tryz.prog 30 (plainElem Tryz.prog 4) bm n8 D8):=zq (HO9.out.kept (qaL hb10 (Nat.le_refl _) none) (by simp));have HG10:Hid (wm.grownBy v10 (some bm)):=zq (qap HG9.out (qaL hb10 (Nat.le_refl _) _));clear hb10 e0 e1 HO9 HG9 H9;have hmx:n8<maxLen:=by unfold maxLen;omega
      go_wp2_with (at_mapUpdate;refine wpList_mapUpdate_own _ rfl _ _ _ 143 rfl 30 4 qdc Tryz.underlying143 (plainElem Tryz.prog 4) bm n8 D8 rfl HO10.out hmx _ _ (stK (enS (j1,j2))) rfl rfl (qcX HWE.out.1) (.lit (.bool true)) [] (plainElem_bool Tryz.underlying4 true) ?_;intro v11 ho11 hg11);have HG11:Hid (wm.grownBy v11 (some bm)):=zq (qap HG10.out hg11);have HO11:=zq ho11;have HSN:Hid (SetM (D8.put (stK (enS (j1,j2))) (.lit (.bool true))) (folUp t s (i+1))):=zq ((HS8.out.put HWE.out.1).is fun x=>by rw[HFS.out,HFJ.out];first|(simp;done)|(simp[Bool.or_assoc];done));clear ho11 hg11;go_roundg (gk-1)
      case measure=>omega
      case rel=>exact⟨i+1,n8+1,_,by omega,by omega,by go_num,by omega,HO11,HSN,HG11⟩
    exact AllReadyH.nil
   |true=>
    have e0:v3.cell? ⟨w0.heap.size,2,none⟩=some (.int .i64 j3):=H3.out.1.cell 2;have e1:v3.cell? ⟨w0.heap.size,3,none⟩=some (.int .i64 j4):=H3.out.1.cell 3;go_wp2_with fail;refine(HE1.out _).mono ?_;rintro e v4 ⟨rfl,hb4⟩;have HO4:Hid (v4.ownsMap Tryz.prog 30 (plainElem Tryz.prog 4) bm n D):=zq (HO3.out.kept (qaL hb4 (Nat.le_refl _) none) (by simp));have HG4:Hid (wm.grownBy v4 (some bm)):=zq (qap HG3.out (qaL hb4 (Nat.le_refl _) _));have H4:=zq (⟨H3.out.1.under hb4 H3.out.1.lt,H3.out.2.1.under hb4 H3.out.2.1.lt⟩:_/\_);clear hb4 e0 e1 HO3 HG3 H3 HB3;have hmx:n<maxLen:=by unfold maxLen;omega
    go_upto_region 8 with(at_mapUpdate;refine wpList_mapUpdate_own _ rfl _ _ _ 143 rfl 30 4 qdc Tryz.underlying143 (plainElem Tryz.prog 4) bm n D rfl HO4.out hmx _ _ (stK (enS (j3,j4))) rfl rfl (qcX HWE.out.2) (.lit (.bool true)) [] (plainElem_bool Tryz.underlying4 true) ?_;intro v8 ho8 hg8)
    have HG8:Hid (wm.grownBy v8 (some bm)):=zq (qap HG4.out hg8);have H8:=zq (⟨H4.out.1.grow hg8 (by have:=HLT.out;intro e;injection e with e;omega),H4.out.2.grow hg8 (by have:=HBE.out;intro e;injection e with e;omega)⟩:_/\_);have hn8:n+1<=2*i+1:=by omega
    have HS8:Hid (SetM (D.put (stK (enS (j3,j4))) (.lit (.bool true))) fun x=>folUp t s i x||(true &&eqS (enS (j3,j4)) x)):=zq ((HSE.out.put HWE.out.2).is fun x=>by simp);have HO8:=zq ho8;obtain⟨n8,hne⟩: ∃n',n+1=n':=⟨_,rfl⟩
    rw[hne]at HO8 hn8;obtain⟨D8,hde⟩: ∃D',D.put (stK (enS (j3,j4))) (.lit (.bool true))=D':=⟨_,rfl⟩
    rw[hde]at HO8 HS8;clear ho8 hg8 hne hde HO4 HG4 H4 HSE hmx;refine wp_region_held_drew (S:=(fun W_=>Has W_ (w0.heap.size) 149 #[.int .i64 j1,.int .i64 j2,.int .i64 j3,.int .i64 j4]/\Has W_ (w.heap.size+1) 30 (stA13 s)/\Below v8.heap.size v8 W_)) (by kernel_rfl) ?_ (fun hHeld=>?_)
    ·exact⟨H8.out.1.draw,H8.out.2.draw,qah (Below.refl _ _)⟩
    refine tkZ 0 29 (h:=?_);simp only[lyZ];refine tqZ 1 30 (fun w_ hSw=>And.intro ((show w_.cell? ⟨w0.heap.size,2,none⟩=some (.int .i64 j3:Value)from hSw.1.cell 2)) ((show w_.cell? ⟨w0.heap.size,3,none⟩=some (.int .i64 j4:Value)from hSw.1.cell 3))) (h:=?_);simp only[lyZ];refine tlZ 3 32 (w.heap.size+1) (stA13 s) (fun _ ⟨_,h_,_⟩=>h_) (h:=?_);simp only[lyZ];refine rdZ [2] ?_;refine acZ (some 31) (fun K hK=>?_) ?_
    ·go_simp
     obtain⟨s0,s1,s2⟩:=hHeld;refine(HL2.out _).mono ?_;rintro e_ v7 ⟨rfl,hbs⟩;go_wp2_with fail;refine hK.out _ _ ?_ (fun hHeld=>?_)
     ·exact⟨s0.u hbs,s1.u hbs,bu s2 hbs⟩
     clear hK K s0 s1 s2
     try simp only[lyZ]
     refine wpAnyH_take (i:=4) (oi:=⟨some 33,_,_,_,_,_⟩) (v:= .bool p2) rfl (by kernel_rfl) (by kernel_rfl) (by kernel_rfl) (fun _ _ _ h=>h) (qbo .eql 30 _ _ _ rfl _ _ rfl rfl qcH _ q2 (by rfl)) (by assumption) ?_;simp only[lyZ];refine dnZ ?_;have H9:=zq hHeld;clear hHeld H8;have HO9:Hid (v7.ownsMap Tryz.prog 30 (plainElem Tryz.prog 4) bm n8 D8):=zq (HO8.out.kept (qaL H9.out.2.2 (Nat.le_refl _) none) (by simp));have HG9:Hid (wm.grownBy v7 (some bm)):=zq (qap HG8.out (qaL H9.out.2.2 (Nat.le_refl _) _));clear HO8 HG8
     cases p2 with
     |false=>
      have HSN:Hid (SetM D8 (folUp t s (i+1))):=zq (HS8.out.is fun x=>by rw[HFS.out,HFJ.out];simp);clear q1 q2;go_wp2;go_roundg (gk-1)
      case measure=>omega
      case rel=>exact⟨i+1,n8,D8,by omega,by omega,by go_num,by omega,HO9,HSN,HG9⟩
     |true=>
      have e0:v7.cell? ⟨w0.heap.size,0,none⟩=some (.int .i64 j1):=H9.out.1.cell 0;have e1:v7.cell? ⟨w0.heap.size,1,none⟩=some (.int .i64 j2):=H9.out.1.cell 1;clear q1 q2;go_wp2_with fail;refine(HE2.out _).mono ?_;rintro e v10 ⟨rfl,hb10⟩;have HO10:Hid (v10.ownsMap Tryz.prog 30 (plainElem Tryz.prog 4) bm n8 D8):=zq (HO9.out.kept (qaL hb10 (Nat.le_refl _) none) (by simp));have HG10:Hid (wm.grownBy v10 (some bm)):=zq (qap HG9.out (qaL hb10 (Nat.le_refl _) _));clear hb10 e0 e1 HO9 HG9 H9;have hmx:n8<maxLen:=by unfold maxLen;omega
      go_wp2_with (at_mapUpdate;refine wpList_mapUpdate_own _ rfl _ _ _ 143 rfl 30 4 qdc Tryz.underlying143 (plainElem Tryz.prog 4) bm n8 D8 rfl HO10.out hmx _ _ (stK (enS (j1,j2))) rfl rfl (qcX HWE.out.1) (.lit (.bool true)) [] (plainElem_bool Tryz.underlying4 true) ?_;intro v11 ho11 hg11);have HG11:Hid (wm.grownBy v11 (some bm)):=zq (qap HG10.out hg11);have HO11:=zq ho11;have HSN:Hid (SetM (D8.put (stK (enS (j1,j2))) (.lit (.bool true))) (folUp t s (i+1))):=zq ((HS8.out.put HWE.out.1).is fun x=>by rw[HFS.out,HFJ.out];first|(simp;done)|(simp[Bool.or_assoc];done));clear ho11 hg11;go_roundg (gk-1)
      case measure=>omega
      case rel=>exact⟨i+1,n8+1,_,by omega,by omega,by go_num,by omega,HO11,HSN,HG11⟩
    exact AllReadyH.nil
  exact AllReadyH.nil
end
section
theorem qfg {t:Tp3}{s x:St3}:folB t s x=true↔x∈qaC t s:=by
 have key: ∀j:Jt3,folJ t s x j=true↔(edgeB t s.edge=true/\edgeB t x.edge=true/\joinJ (outE s) (inE x) j=true):=by
  rintro⟨⟨a1,a2⟩,⟨b1,b2⟩⟩;obtain⟨se,sr⟩:=s;obtain⟨xe,xr⟩:=x;unfold folJ connB endB joinJ lvS enS outE inE;simp only[Bool.and_eq_true,Bool.or_eq_true,beq_iff_eq,qaI,eqE_iff,Prod.mk.injEq,St3.mk.injEq]
  constructor
  ·rintro⟨⟨⟨ha,ha2⟩,⟨hb,hb2⟩⟩,(⟨⟨rfl,rfl⟩,⟨rfl,rfl⟩⟩|⟨⟨rfl,rfl⟩,⟨rfl,rfl⟩⟩)⟩
   ·refine⟨ha,hb,.inl ⟨⟨rfl,?_⟩,⟨rfl,?_⟩⟩⟩
    ·rcases ha2 with rfl|rfl<;>simp
    ·rcases hb2 with rfl|rfl<;>simp
   ·refine⟨hb,ha,.inr ⟨⟨rfl,?_⟩,⟨rfl,?_⟩⟩⟩
    ·rcases ha2 with rfl|rfl<;>simp
    ·rcases hb2 with rfl|rfl<;>simp
  ·rintro⟨h1,h2,(⟨⟨rfl,rfl⟩,⟨rfl,rfl⟩⟩|⟨⟨rfl,rfl⟩,⟨rfl,rfl⟩⟩)⟩
   ·refine⟨⟨⟨h1,?_⟩,⟨h2,?_⟩⟩,.inl ⟨⟨rfl,?_⟩,⟨rfl,?_⟩⟩⟩<;>first|(cases sr<;>simp;done)|(cases xr<;>simp;done)
   ·refine⟨⟨⟨h2,?_⟩,⟨h1,?_⟩⟩,.inr ⟨⟨rfl,?_⟩,⟨rfl,?_⟩⟩⟩<;>first|(cases sr<;>simp;done)|(cases xr<;>simp;done)
 rw[qbw];unfold folB mayT joinB;rw[List.any_eq_true,List.any_eq_true]
 constructor
 ·rintro⟨j,hj,h⟩
  obtain⟨h1,h2,h3⟩:=(key j).1 h;exact⟨h1,h2,j,hj,h3⟩
 ·rintro⟨h1,h2,j,hj,h3⟩
  exact⟨j,hj,(key j).2 ⟨h1,h2,h3⟩⟩
end
section
open Go.RowKit
open Go.Great
open Go.Maps (has)
theorem bool_inv13 {v:Value}{z:DataW Unit×List MemPlace}(h:plainElem Tryz.prog 4 v=some z): ∃b,v= .bool b/\z=(.lit (.bool b),[]):=by
 unfold plainElem at h;rw[Tryz.underlying4]at h
 cases v<;>simp at h
 exact⟨_,rfl,h.symm⟩
theorem map_look13 {W:World}{bm n:Nat}{D:DataW Unit}{p:St3->Bool}{x:St3}(h:W.ownsMap Tryz.prog 30 (plainElem Tryz.prog 4) bm n D)(hD:SetM D p)(hx:wfS x):
  (Instr.lookup 143 (.map (some bm)) (.agg #[.int .i64 x.edge,.bool x.rev]) false).run Tryz.prog W= .ok (.bool (p x)) W:=by
 obtain⟨v,ps,hr,hv⟩:=h.lookup qdc Tryz.underlying143 (z:= .bool false) (by kernel_rfl) (plainElem_bool Tryz.underlying4 false) (qcX hx);obtain⟨b,rfl,hz⟩:=bool_inv13 hv;have h1:D.atKey (stK x) (.lit (.bool false))= .lit (.bool b):=congrArg Prod.fst hz;rw[hD.tr,hD.mem x hx]at h1
 cases h1
 exact hr
theorem fol_may {t:Tp3}{a b:St3}(ha:edgeB t a.edge=true)(hb:edgeB t b.edge=true):folB t a b=mayT t a b:=by
 rw[Bool.eq_iff_iff,qfg,qbw];exact⟨fun h=>h.2.2,fun h=>⟨ha,hb,h⟩⟩
theorem otway_any (t:Tp3)(a:TpA)(path:List St3)(A:Option Addr)(n c:Nat)(w:World)(ht:TopR w t a)(hp:SlO stC 2 w A n c path)(hn:n<=1048576)(hn1:1<=n)(hl:t.edges.length<=100)(hj:t.joints.length<=100)(hall: ∀s∈path,edgeB t s.edge=true):
  Calls Tryz.prog 194 #[.agg (tpC t a),.slice A n c] w fun e w'=>e= .returned (.bool (wayB t path))/\Below w.heap.size w w':=by
 obtain⟨wa,hwa,hbwa,HWA,HBWA,h0⟩:=bx1Z w 27 (tpC t a);have H0:=zH h0;have HT:=zq (fun W (hW:Below w.heap.size w W)=>ht.under hW);have HP:=zq (fun W (hW:Below w.heap.size w W)=>hp.under hW);have HBA:=zq (fun W (hW:Below wa.heap.size wa W)=>hbwa.trans (hW.mono hbwa.size));have HLN:=zq hp.1;have HALL:=zq hall;have HL:=zq hl;have HJ:=zq hj;obtain⟨rb,hrb⟩: ∃r,wayB t path=r:=⟨_,rfl⟩
 have HRB:=zq hrb;rw[hrb];clear hwa hbwa h0 ht hp hall hl hj hrb;go_enter Tryz.func194,Tryz.ntmps194;go_upto_region 1 with fail;rw[HWA.out];clear HWA;go_wp2;go_loopg [5] n (fun kk v wl=> ∃m:Nat,1<=m/\m<=n/\n-m<=kk/\v= .int .i64 m/\Hid (∀k a b,k+1<m->path[k]?=some a->path[k+1]?=some b->mayT t a b=true)/\Below wa.heap.size wa wl)
 case atStart=>exact⟨1,by omega,hn1,by omega,rfl,zq (fun k a b h=>absurd h (by omega)),Below.refl _ _⟩
 obtain⟨m,hm1,hm,hmk,rfl,HMA,hwm⟩:=hrel;have HWM:=zq hwm;have HNN:=zq hn;by_cases hml:m<n;rotate_left
 ·obtain rfl:m=n:=by omega
  have x1: ¬(m:Int)<m:=by omega
  have HF:Hid (rb=true):=zq (by rw[<-HRB.out];exact qgw.2 fun k a b ha hb=>HMA.out k a b (by have h1_:=(List.getElem?_eq_some_iff.1 hb).1;have h2_:=HLN.out;omega) ha hb);clear hm hmk hwm;go_wp2;go_ret
  exact⟨by rw[HF.out];rfl,HBA.out _ HWM.out⟩
 obtain⟨x,hx⟩:=glZ path (m-1) (by have:=HLN.out;omega);obtain⟨y,hy⟩:=glZ path (m) (by have:=HLN.out;omega);have HX:=zq hx;have HY:=zq hy;have HEX:=zq (HALL.out x (List.mem_of_getElem? hx));have HEY:=zq (HALL.out y (List.mem_of_getElem? hy));have HWY:=zq (wfS_of HEY.out HL.out);obtain⟨bk,off,rfl,-,-⟩:=(HP.out w (Below.refl _ _)).step hx;have HCX:=zq (fun W (hW:Below w.heap.size w W)=>(show W.cell? ⟨bk,off+(m-1)*2,none⟩=some (.int .i64 x.edge)/\W.cell? ⟨bk,off+(m-1)*2+1,none⟩=some (.bool x.rev)from by obtain⟨b_,o_,e_,h1_,h2_⟩:=(HP.out W hW).step hx;injection e_ with e_;injection e_ with e1_ e2_ _;subst e1_ e2_;exact⟨h1_,h2_⟩));have HCY:=zq (fun W (hW:Below w.heap.size w W)=>(show W.cell? ⟨bk,off+m*2,none⟩=some (.int .i64 y.edge)/\W.cell? ⟨bk,off+m*2+1,none⟩=some (.bool y.rev)from by obtain⟨b_,o_,e_,h1_,h2_⟩:=(HP.out W hW).step hy;injection e_ with e_;injection e_ with e1_ e2_ _;subst e1_ e2_;exact⟨h1_,h2_⟩));obtain⟨bq,hbq⟩: ∃b,mayT t x y=b:=⟨_,rfl⟩
 have HBQ:=zq hbq;have HFQ:=zq (show folB t x y=bq from(fol_may HEX.out HEY.out).trans hbq);have hw1:IntKind.i64.wrap ((m:Int)-1)=(m:Int)-1:=by rw[IntKind.wrap_i64];omega
 have hw2:((m:Int)-1).toNat=m-1:=by omega
 have y0:(0:Int)<=(m:Int)-1:=by omega
 have y1:(m:Int)-1<n:=by omega
 have y2:(0:Int)<=(m:Int):=by omega
 have y4:(1:Int)<=(m:Int):=by omega
 have y3:(m:Int)<n:=by omega
 clear hx hy hwm hbq;go_upto_region 4 with fail;refine wp_region_held_drew (S:=(fun W_=>Has W_ (w.heap.size) 27 (tpC t a)/\Below wr.heap.size wr W_)) (by kernel_rfl) ?_ (fun hHeld=>?_)
 ·exact⟨(H0.out _ HWM.out).draw,qah (Below.refl _ _)⟩
 refine tlZ 0 12 w.heap.size (tpC t a) (fun _ ⟨h_,_⟩=>h_) (h:=?_);simp only[lyZ];refine tkZ 1 13 (h:=?_);simp only[lyZ];refine tkZ 2 14 (h:=?_);simp only[lyZ];refine tkZ 3 15 (h:=?_);simp only[lyZ];refine tkZ 4 16 (h:=?_);simp only[lyZ];refine tqZ 5 17 (fun w_ hSw=>HCX.out w_ (HBA.out w_ (HWM.out.trans (hSw.2.mono HWM.out.size)))) (h:=?_);simp only[lyZ];refine tkZ 7 19 (h:=?_);simp only[lyZ];refine tkZ 8 20 (h:=?_);simp only[lyZ];refine tkZ 9 21 (h:=?_);simp only[lyZ];refine tqZ 10 22 (fun w_ hSw=>HCY.out w_ (HBA.out w_ (HWM.out.trans (hSw.2.mono HWM.out.size)))) (h:=?_);simp only[lyZ];refine rdZ [6] ?_;refine acZ (some 18) (fun K hK=>?_) ?_
 ·go_simp
  obtain⟨s0,s1⟩:=hHeld;have hlo_:=HBA.out _ (bu HWM.out s1);refine(otfol_any t a x _ (HT.out _ hlo_) HL.out (by have:=HJ.out;omega)).mono ?_;rintro e_ vs ⟨bm,n2,D,rfl,hn2,HO,HD,_,hbs⟩;go_wp2_with fail;refine hK.out _ _ ?_ (fun hHeld=>?_)
  ·exact⟨s0.u hbs,bu s1 hbs⟩
  refine mr2 (fun W_=>World.ownsMap W_ Tryz.prog 30 (plainElem Tryz.prog 4) bm n2 D) ⟨s0.u hbs,bu s1 hbs,HO.out⟩ (fun h_=>?_);clear hHeld;have hHeld:=h_;clear h_;clear hK K s0 s1
  try simp only[lyZ]
  refine tkZ 11 23 (hy:=by intro w_ hSw;(try dsimp only at hSw);have q_:=map_look13 hSw.2.2 HD.out HWY.out;rw[HFQ.out]at q_;go_simp<;>with_reducible rfl) (h:=?_);simp only[lyZ];refine tkZ 12 24 (h:=?_);simp only[lyZ];refine dnZ ?_;clear hw1 hw2 y0 y1 y2 y3 y4
  cases bq with
  |false=>
   have HF:Hid (rb=false):=zq (by rw[<-HRB.out];cases h:wayB t path with
    |false=>rfl
    |true=>have h_:=qgw.1 h (m-1) x y HX.out (by rw[show m-1+1=m by omega];exact HY.out);rw[HBQ.out]at h_;cases h_)
   go_wp2;go_ret
   exact⟨by rw[HF.out];rfl,HBA.out _ (HWM.out.trans (hHeld.2.1.mono HWM.out.size))⟩
  |true=>
   go_wp2;go_roundg (gk-1)
   case measure=>omega
   case rel=>
    refine⟨m+1,by omega,by omega,by omega,by go_num,zq (fun k a' b' hk ha hb=>?_),HWM.out.trans (hHeld.2.1.mono HWM.out.size)⟩;by_cases hkm:k+1=m
    ·have e_:k=m-1:=by omega
     rw[e_,HX.out]at ha;rw[hkm,HY.out]at hb;injection ha with ha
     injection hb with hb
     rw[<-ha,<-hb];exact HBQ.out
    ·exact HMA.out k a' b' (by omega) ha hb
 exact AllReadyH.nil
theorem qgh (t:Tp3)(a:TpA)(path:List St3)(A:Option Addr)(n c:Nat)(w:World)(ht:TopR w t a)(hp:SlO stC 2 w A n c path)(hn:n<=1048576)(hl:qaJ t=true)(hok:qaF t=true):Calls Tryz.prog 146 #[.agg (tpC t a),.slice A n c] w fun e w'=>e= .returned (.tuple #[.int .i64 (lenN t path),.int .i64 (lenE t path)])/\Below w.heap.size w w':=by
 have hlg:=qav hl;obtain⟨wa,hwa,hbwa,HWA,HBWA,h0⟩:=bx1Z w 27 (tpC t a);have H0:=zH h0;have HT:=zq (fun W (hW:Below w.heap.size w W)=>ht.under hW);have HP:=zq (fun W (hW:Below w.heap.size w W)=>hp.under hW);have HBA:=zq (fun W (hW:Below wa.heap.size wa W)=>hbwa.trans (hW.mono hbwa.size));have HLN:=zq hp.1;have HOK:=zq hok;have HL:=zq hlg.1;have HJ:=zq hlg.2.1;obtain⟨rN,hrN⟩: ∃r,lenN t path=r:=⟨_,rfl⟩
 obtain⟨rE,hrE⟩: ∃r,lenE t path=r:=⟨_,rfl⟩
 have HRN:=zq hrN;have HRE:=zq hrE;rw[hrN,hrE];have HWI:=zq (fun W=>qbH n 1 40 W);obtain⟨b1,hb1⟩: ∃b,qaq n 1 40=b:=⟨_,rfl⟩
 rw[hb1]at HWI;have HB1:Hid (qaq n 1 40=b1):=zq hb1;have HEE:=zq (fun W (hW:Below w.heap.size w W)=>qfv t a path A n c W (hp.under hW) hn hlg.1);obtain⟨b2,hb2⟩: ∃b,(path.all fun s=>edgeB t s.edge)=b:=⟨_,rfl⟩
 rw[hb2]at HEE;have HB2:=zq hb2;have HNB:=zq hn;clear hwa hbwa h0 ht hp hok hrN hrE hl hlg hb1 hb2 hn
 cases b1 with
 |false=>
  go_enter Tryz.func146,Tryz.ntmps146;go_upto_region 1 with fail;rw[HWA.out];clear HWA;go_wp2_with fail;refine(HWI.out _).mono ?_;rintro e w1 ⟨rfl,hw1⟩;rw[hw1];clear hw1;go_wp2;go_ret2
  have hE:lenE t path=1:=by unfold lenE;rw[if_pos (by have h_:=HB1.out;unfold qaq at h_;simp only[Bool.and_eq_false_iff,decide_eq_false_iff_not]at h_;have:=HLN.out;omega)]
  have e1_:rN=0:=by rw[<-HRN.out];unfold lenN;rw[hE];rfl
  have e2_:rE=1:=by rw[<-HRE.out];exact hE
  subst e1_ e2_;exact⟨rfl,HBWA.out⟩
 |true=>
  cases b2 with
  |false=>
   go_enter Tryz.func146,Tryz.ntmps146;go_upto_region 1 with fail;rw[HWA.out];clear HWA;go_wp2_with fail;refine(HWI.out _).mono ?_;rintro e w1 ⟨rfl,hw1⟩;rw[hw1];clear hw1;go_wp2_with ((with_reducible refine qbx 15 ?_);refine qaB (o:=⟨some 15,_,_,_,_,_⟩) 27 _ rfl (by kernel_rfl) (w.heap.size) rfl 27 (tpC t a) (0,0) _ ((H0.out _ (Below.refl _ _))).raw11 Tryz.underlying27 rfl (by kernel_rfl) ?_);refine(HEE.out _ HBWA.out).mono ?_;rintro e w2 ⟨rfl,hbw2⟩;have HB3:=tB HBWA hbw2;clear hbw2;go_wp2;go_ret2
   have hE:lenE t path=1:=by unfold lenE;rw[if_neg (by have h_:=HB1.out;unfold qaq at h_;simp only[Bool.and_eq_true,decide_eq_true_eq]at h_;have:=HLN.out;omega),HB2.out];rfl
   have e1_:rN=0:=by rw[<-HRN.out];unfold lenN;rw[hE];rfl
   have e2_:rE=1:=by rw[<-HRE.out];exact hE
   subst e1_ e2_;exact⟨rfl,HB3.out⟩
  |true=>
   go_enter Tryz.func146,Tryz.ntmps146;go_upto_region 1 with fail;rw[HWA.out];clear HWA;go_wp2_with fail;refine(HWI.out _).mono ?_;rintro e w1 ⟨rfl,hw1⟩;rw[hw1];clear hw1;go_wp2_with ((with_reducible refine qbx 15 ?_);refine qaB (o:=⟨some 15,_,_,_,_,_⟩) 27 _ rfl (by kernel_rfl) (w.heap.size) rfl 27 (tpC t a) (0,0) _ ((H0.out _ (Below.refl _ _))).raw11 Tryz.underlying27 rfl (by kernel_rfl) ?_);refine(HEE.out _ HBWA.out).mono ?_;rintro e w2 ⟨rfl,hbw2⟩;have HBW:=zq hbw2;have HALL:Hid (∀s∈path,edgeB t s.edge=true):=zq (List.all_eq_true.1 HB2.out);have HNZ:Hid (1<=n/\n<=40):=zq (by have h_:=HB1.out;unfold qaq at h_;simp only[Bool.and_eq_true,decide_eq_true_eq]at h_;omega);have HWY:=zq (otway_any t a path A n c w2 (HT.out _ (HBA.out _ hbw2)) (HP.out _ (HBA.out _ hbw2)) HNB.out HNZ.out.1 HL.out HJ.out HALL.out);obtain⟨b3,hb3⟩: ∃b,wayB t path=b:=⟨_,rfl⟩
   rw[hb3]at HWY;have HB3:=zq hb3;clear hbw2 hb3;go_wp2_with (with_reducible refine ldZ 21 (H0.out _ HBW.out) ?_);refine HWY.out.mono ?_;rintro e w3 ⟨rfl,hbw3⟩;have HW3:=tB HBW hbw3;clear hbw3 HWY HBW
   cases b3 with
   |false=>
    go_wp2;go_ret2
    have hE:lenE t path=141:=by unfold lenE;rw[if_neg (by have h_:=HB1.out;unfold qaq at h_;simp only[Bool.and_eq_true,decide_eq_true_eq]at h_;have:=HLN.out;omega),HB2.out,if_pos rfl,HB3.out];rfl
    have e1_:rN=0:=by rw[<-HRN.out];unfold lenN;rw[hE];rfl
    have e2_:rE=141:=by rw[<-HRE.out];exact hE
    subst e1_ e2_;exact⟨rfl,HBA.out _ HW3.out⟩
   |true=>
    have HE0:Hid (lenE t path=0):=zq (by unfold lenE;rw[if_neg (by have h_:=HB1.out;unfold qaq at h_;simp only[Bool.and_eq_true,decide_eq_true_eq]at h_;have:=HLN.out;omega),HB2.out,if_pos rfl,HB3.out];rfl);clear HB1 HB2 HB3 HWI HEE;go_wp2;go_loopg [6,27] n (fun kk v6 v27 wl=> ∃i:Nat,i<=n/\n-i<=kk/\v27= .int .i64 i/\v6= .int .i64 (sumT t (path.take i))/\Hid (Below wa.heap.size wa wl))
    case atStart=>exact⟨0,by omega,by omega,rfl,by simp[sumT],HW3⟩
    obtain⟨i,hi,hik,rfl,rfl,HWR⟩:=hrel;by_cases hlt:i<n;rotate_left
    ·obtain rfl:i=n:=by omega
     have x1: ¬(i:Int)<i:=by omega
     have hti:path.take i=path:=List.take_of_length_le (by have:=HLN.out;omega);rw[hti];have HSM:Hid (rN=sumT t path/\rE=0):=zq ⟨by rw[<-HRN.out];unfold lenN;rw[if_pos HE0.out],by rw[<-HRE.out];exact HE0.out⟩;clear hti;go_wp2;go_ret2
     obtain⟨e1_,e2_⟩:=HSM.out;subst e1_ e2_;exact⟨rfl,HBA.out _ HWR.out⟩
    obtain⟨x,hx⟩:=glZ path (i) (by have:=HLN.out;omega);have HX:=zq hx;have hex:=HALL.out x (List.mem_of_getElem? hx);have hed:0<=x.edge/\x.edge<t.edges.length:=by have h_:=hex;unfold edgeB at h_;simpa using h_
    obtain⟨e,hee⟩: ∃e:Nat,x.edge=e:=⟨x.edge.toNat,by omega⟩
    have hel:e<t.edges.length:=by omega
    have HLA:=zq (show lenAt t x=t.edges.getD e 0 from by unfold lenAt;rw[hee];rfl);have HLB:=zq (qa2 HOK.out hex);obtain⟨q,hq⟩:=geZ (t.edges.getD e 0);have HSB:=zq (qcw HOK.out (fun s hs=>HALL.out s (List.mem_of_mem_take hs)) (path:=path.take i));obtain⟨sv,hsv⟩: ∃s,sumT t (path.take i)=s:=⟨_,rfl⟩
    have HSV:=zq hsv;simp only[hsv];have hl0:(path.take i).length<=40:=by have:=HNZ.out;rw[List.length_take];omega
    have hs:0<=sv/\sv<=40000000:=by have h_:=HSB.out;rw[hsv]at h_;omega
    rw[hq]at HLA;have hq2:1<=q/\q<=1000000:=by have h_:=HLB.out;rw[HLA.out]at h_;exact h_
    have hwr1:IntKind.i64.wrap (sv+q)=sv+q:=by rw[IntKind.wrap_i64];omega
    have HQ:=zq hq;have HHE:=zq hee;have HEL:=zq hel;have HRNG:=zq hs;have HQ2:=zq hq2;obtain⟨bk,off,rfl,d0,d1⟩:=(HP.out _ (HBA.out _ HWR.out)).step hx;rw[hee]at d0;have y0:(0:Int)<=i:=by omega
    have y1:(i:Int)<n:=by omega
    have y2:(i:Int)<40:=by have:=HNZ.out;omega
    clear hx hex hed hee hel hq hsv hl0 hs;go_upto_region 9 with fail;obtain⟨wb,hwb⟩:=geZ (wr.alloc (.cells #[.int .i64 (e:Nat),.bool x.rev] 30));rw[hwb];have hbb:Below wr.heap.size wr wb:=by rw[<-hwb];exact bA
    have hH:Has wb wr.heap.size 30 #[.int .i64 (e:Nat),.bool x.rev]:=by rw[<-hwb];exact Has.made _ _ _
    have HWB:=tB HWR hbb;have hc0:wb.cell? ⟨wr.heap.size,0,none⟩=some (.int .i64 (e:Nat)):=hH.cell 0;obtain⟨be,oe,hae,ce⟩:=(HT.out _ (HBA.out _ HWB.out)).e.edge HEL.out;have c0:=(H0.out _ HWB.out).cell 0;have c0':wb.cell? ⟨w.heap.size,0,none⟩=some (.slice (some ⟨be,oe,none⟩) t.edges.length a.ce):=by first|exact c0.trans (by rw[<-hae];rfl)|(rw[<-hae];exact c0)
    have z0:(0:Int)<=e:=by omega
    have z1:(e:Int)<t.edges.length:=by have:=HEL.out;omega
    rw[HQ.out]at ce;obtain⟨me,hme⟩: ∃m,t.edges.length=m:=⟨_,rfl⟩
    rw[hme]at c0' z1;clear hwb hbb hH c0 hme hae d0 d1;go_wp2;go_roundg (gk-1)
    case measure=>omega
    case rel=>
     refine⟨i+1,by omega,by omega,by go_num,?_,HWB⟩;rw[List.take_add_one,HX.out,qfI,HSV.out];show _=Value.int .i64 (sv+(lenAt t x+0))
     rw[HLA.out,Int.add_zero]
end
section
open Go.RowKit
open Go.Great
theorem routeE_w (t:Tp3)(r:Rt3):qbv t r=if r.id<1 then 1 else if 8<r.path.length then 1 else if qa6 r.path=true then 1 else if lenE t r.path=0 then(if qaq r.gap 0 (lenN t r.path-1)=true then(if qaq r.timer 1 1000=true then(if(r.path.all (qcp t))=true then 0 else 4)else 1)else 1)else lenE t r.path:=by
 unfold qbv;by_cases h1:r.id<1
 ·rw[if_pos (.inl h1),if_pos h1]
 ·rw[if_neg h1]
  by_cases h2:8<r.path.length
  ·rw[if_pos (.inr (.inr h2)),if_pos h2]
  ·rw[if_neg h2]
   by_cases h3:r.path.length=0
   ·rw[if_pos (.inr (.inl h3))]
    have hp:r.path=[]:=List.eq_nil_of_length_eq_zero h3;have ht:qa6 r.path=false:=by rw[hp];rfl
    have hl:lenE t r.path=1:=by unfold lenE;rw[if_pos (.inl h3)]
    rw[ht,if_neg (by decide),hl,if_neg (by decide)]
   ·rw[if_neg (by omega)]
    cases ht:qa6 r.path with
    |true=>rw[if_neg (by simp),if_pos rfl]
    |false=>
     rw[if_neg (c:=false=true) (by decide)]
     cases ha:(r.path.all fun s=>edgeB t s.edge)with
     |false=>
      have hl:lenE t r.path=1:=by unfold lenE;rw[if_neg (by omega),ha,if_neg (by decide)]
      rw[if_neg (by decide),hl,if_neg (by decide)]
     |true=>
      rw[if_pos (by decide)];by_cases h4:lenE t r.path=0
      ·rw[if_pos h4,if_pos h4]
       cases hg:qaq r.gap 0 (lenN t r.path-1)with
       |false=>
        rw[if_neg (c:=false=true) (by decide),if_pos];unfold qaq at hg;simp only[Bool.and_eq_false_iff,decide_eq_false_iff_not]at hg;omega
       |true=>
        rw[if_pos rfl];unfold qaq at hg;simp only[Bool.and_eq_true,decide_eq_true_eq]at hg
        cases hr:qaq r.timer 1 1000 with
        |false=>
         rw[if_neg (c:=false=true) (by decide),if_pos];unfold qaq at hr;simp only[Bool.and_eq_false_iff,decide_eq_false_iff_not]at hr;omega
        |true=>
         unfold qaq at hr;simp only[Bool.and_eq_true,decide_eq_true_eq]at hr;rw[if_pos rfl,if_neg (by omega)]
      ·rw[if_neg h4,if_neg h4]
theorem otcr_any (t:Tp3)(a:TpA)(i:Nat)(r:Rt3)(w:World)(ht:TopR w t a)(hl:qaJ t=true)(hok:qaF t=true)(hr:t.routes[i]?=some r):
  Calls Tryz.prog 104 #[.agg (tpC t a),.int .i64 i] w fun e w'=>e= .returned (.int .i64 (qaY t i))/\Below w.heap.size w w':=by
 have hlg:=qav hl;obtain⟨wa,hwa,hbwa,HWA,HBWA,h0⟩:=bx1Z w 27 (tpC t a);have hil:=(List.getElem?_eq_some_iff.1 hr).1;have hpl:=hlg.2.2.2.2 r (List.mem_of_getElem? hr);rw[qgp hr,routeE_w];have hix:=idx_take (p:=fun y:Rt3=>y.id==r.id) hr (by simp);have HFR:=zq (fun W (hW:Below w.heap.size w W)=>qdg t a r.id W (ht.under hW) (by have:=hlg.2.2.2.1;omega));obtain⟨nr,hnr⟩: ∃n,t.routes.length=n:=⟨_,rfl⟩
 obtain⟨AR,hAR⟩: ∃A,a.ar=A:=⟨_,rfl⟩
 have hrs:RtsR w AR nr a.cr t.routes:=by rw[<-hAR,<-hnr];exact ht.r
 obtain⟨bk,off,PA,pc,rfl,hpa,d0,d1,d2,d3,hcap⟩:=hrs.cap_at hr;have HRP:=zq (fun W (hW:Below w.heap.size w W)=>otrep_any r.path PA r.path.length pc W (hpa.under hW) (by omega) hcap);have HLE:=zq (fun W (hW:Below w.heap.size w W)=>qgh t a r.path PA r.path.length pc W (ht.under hW) (hpa.under hW) (by omega) hl hok);have HHB:=zq (fun W (hW:Below w.heap.size w W)=>othave_any t a r.path PA r.path.length pc W (ht.under hW) hlg.2.2.1 (hpa.under hW) (by omega));have HWG:=zq (fun W=>qdz r.gap 0 (lenN t r.path-1) W);have HWT:=zq (fun W=>qdz r.timer 1 1000 W);have HLB:=zq (show lenE t r.path=0->0<=lenN t r.path/\lenN t r.path<=40000000 from fun h=>by
  have h0_:=h;unfold lenE at h0_;split at h0_
  ·exact absurd h0_ (by decide)
  ·rename_i h1_
   split at h0_
   ·rename_i h2_
    rw[List.all_eq_true]at h2_;have:=qcw hok h2_;unfold lenN;rw[if_pos h];omega
   ·exact absurd h0_ (by decide))
 have c3:wa.cell? ⟨w.heap.size,3,none⟩=some (.slice (some ⟨bk,off,none⟩) nr a.cr):=by rw[<-hnr,<-hAR];exact h0.cell 3
 have f0:=(hbwa.cell (qag d0)).trans d0;have f1:=(hbwa.cell (qag d1)).trans d1;have f2:=(hbwa.cell (qag d2)).trans d2;have f3:=(hbwa.cell (qag d3)).trans d3;have HBA:=zq (fun W (hW:Below wa.heap.size wa W)=>hbwa.trans (hW.mono hbwa.size));have HH0:=zq h0;have y0:(0:Int)<=i:=by omega
 have y1:(i:Int)<nr:=by omega
 obtain⟨R,hR⟩:=geZ (idxL (fun y:Rt3=>y.id==r.id) t.routes);rw[hR]at hix HFR;obtain⟨kk,hkk⟩: ∃x,((t.routes.take i).any fun y:Rt3=>y.id==r.id)=x:=⟨_,rfl⟩
 rw[hkk]at hix;have HIX:=zq hix;obtain⟨tw,htw⟩: ∃x,qa6 r.path=x:=⟨_,rfl⟩
 obtain⟨le,hle⟩: ∃x,lenE t r.path=x:=⟨_,rfl⟩
 obtain⟨ln,hln⟩: ∃x,lenN t r.path=x:=⟨_,rfl⟩
 rw[hln]at HWG;obtain⟨bg,hbg⟩: ∃x,qaq r.gap 0 (ln-1)=x:=⟨_,rfl⟩
 obtain⟨bt,hbt⟩: ∃x,qaq r.timer 1 1000=x:=⟨_,rfl⟩
 obtain⟨hb,hhb⟩: ∃x,r.path.all (qcp t)=x:=⟨_,rfl⟩
 rw[htw]at HRP;rw[hle,hln]at HLE HLB;rw[hbg]at HWG;rw[hbt]at HWT;rw[hhb]at HHB;rw[hkk,htw,hle,hln,hbg,hbt,hhb];obtain⟨V,hV⟩: ∃V:Int,(if(if r.id<1 then(1:Int)else if 8<r.path.length then 1 else if tw=true then 1 else if le=0 then(if bg=true then(if bt=true then(if hb=true then 0 else 4)else 1)else 1)else le)=0 then(if kk=true then 5 else 0)else(if r.id<1 then(1:Int)else if 8<r.path.length then 1 else if tw=true then 1 else if le=0 then(if bg=true then(if bt=true then(if hb=true then 0 else 4)else 1)else 1)else le))=V:=⟨_,rfl⟩
 rw[hV];have HV:=zq hV;clear hV;clear hwa hbwa h0 ht hl hok hlg hr hrs hil hnr hAR hix hR hkk htw hle hln hbg hbt hhb hpa hcap d0 d1 d2 d3;obtain⟨rl,hrl⟩: ∃n,r.path.length=n:=⟨_,rfl⟩
 rw[hrl]at HRP HLE HHB f1 hpl HV;clear hrl;obtain⟨ri,rp,rg,rt⟩:=r;dsimp only at*;go_enter Tryz.func104,Tryz.ntmps104;go_upto_region 1 with fail;rw[HWA.out];clear HWA;go_upto_region 2 with fail;obtain⟨wb,hwb⟩:=geZ (wa.alloc (.cells #[.int .i64 ri,.slice PA rl pc,.int .i64 rg,.int .i64 rt] 75));rw[hwb];have hbb:Below wa.heap.size wa wb:=by rw[<-hwb];exact bA
 have hX:Has wb wa.heap.size 75 #[.int .i64 ri,.slice PA rl pc,.int .i64 rg,.int .i64 rt]:=by rw[<-hwb];exact Has.made _ _ _
 have HB0:=uH HH0 hbb;have HBB:=zq (HBA.out _ hbb);obtain⟨g5,hg5⟩: ∃g,wa.heap.size=g:=⟨_,rfl⟩
 rw[hg5]at hX;simp only[hg5];have HX:=zq hX;clear hwb hbb hX hg5 f0 f1 f2 f3 c3 HH0 HBA;have e0:wb.cell? ⟨g5,0,none⟩=some (.int .i64 ri):=HX.out.cell 0;have e1:wb.cell? ⟨g5,1,none⟩=some (.slice PA rl pc):=HX.out.cell 1;by_cases h1:ri<1
 ·skip
  have HVV:Hid (V=1):=zq (by rw[<-HV.out];simp[h1]);go_wp2;go_ret
  exact⟨by rw[HVV.out];rfl,HBB.out⟩
 by_cases h2:8<rl
 ·have h3:(rl:Int)>8:=by omega
  have HVV:Hid (V=1):=zq (by rw[<-HV.out];simp[h1,h2]);go_wp2;go_ret
  exact⟨by rw[HVV.out];rfl,HBB.out⟩
 have hv2:=HV.out;rw[if_neg h1,if_neg h2]at hv2;have HVB:=zq hv2;clear hv2 HV;have h3: ¬(rl:Int)>8:=by omega
 have HA:=zq (HRP.out wb HBB.out);clear HRP;go_wp2_with fail;refine HA.out.mono ?_;rintro e w2 ⟨rfl,hb2⟩;have HX2:=uH HX hb2;have HB20:=uH HB0 hb2;have HBB2:=tB HBB hb2;clear hb2 HA h1 h2 h3 e0 e1 HX HB0 HBB
 cases tw with
 |true=>
  have HVV:Hid (V=1):=zq (by rw[<-HVB.out];simp);go_wp2;go_ret
  exact⟨by rw[HVV.out];rfl,HBB2.out⟩
 |false=>
  have e1:w2.cell? ⟨g5,1,none⟩=some (.slice PA rl pc):=HX2.out.cell 1;have HA:=zq (HLE.out w2 HBB2.out);clear HLE;go_upto_region 4 with fail;go_wp2_with (with_reducible refine ldZ 28 HB20.out ?_);refine HA.out.mono ?_;rintro e w3 ⟨rfl,hb3⟩;have HX3:=uH HX2 hb3;have HB30:=uH HB20 hb3;have HBB3:=tB HBB2 hb3;clear hb3 HA e1 HX2 HB20 HBB2;by_cases h4:le=0;rotate_left
  ·have n1:(le==0)=false:=by simp[h4]
   have n2:(le !=0)=true:=by simp[h4]
   have HVV:Hid (V=le):=zq (by rw[<-HVB.out];simp[h4]);go_wp2;go_ret
   exact⟨by rw[HVV.out];rfl,HBB3.out⟩
  have hln:=HLB.out h4;subst h4;have hws:IntKind.i64.wrap (ln-1)=ln-1:=by rw[IntKind.wrap_i64];omega
  clear HLB hln;have e2:w3.cell? ⟨g5,2,none⟩=some (.int .i64 rg):=HX3.out.cell 2;go_wp2_with fail;refine(HWG.out _).mono ?_;rintro e w4 ⟨rfl,hb4⟩;have HX4:=uH HX3 hb4;have HB40:=uH HB30 hb4;have HBB4:=tB HBB3 hb4;clear hb4 e2 HX3 HB30 HBB3 HWG hws
  cases bg with
  |false=>
   have HVV:Hid (V=1):=zq (by rw[<-HVB.out];simp);go_wp2;go_ret
   exact⟨by rw[HVV.out];rfl,HBB4.out⟩
  |true=>
   have e3:w4.cell? ⟨g5,3,none⟩=some (.int .i64 rt):=HX4.out.cell 3;go_wp2_with fail;refine(HWT.out _).mono ?_;rintro e w5 ⟨rfl,hb5⟩;have HX5:=uH HX4 hb5;have HB50:=uH HB40 hb5;have HBB5:=tB HBB4 hb5;clear hb5 e3 HX4 HB40 HBB4 HWT
   cases bt with
   |false=>
    have HVV:Hid (V=1):=zq (by rw[<-HVB.out];simp);go_wp2;go_ret
    exact⟨by rw[HVV.out];rfl,HBB5.out⟩
   |true=>
    have e1:w5.cell? ⟨g5,1,none⟩=some (.slice PA rl pc):=HX5.out.cell 1;have HA:=zq (HHB.out w5 HBB5.out);clear HHB;go_upto_region 9 with fail;go_wp2_with (with_reducible refine ldZ 52 HB50.out ?_);refine HA.out.mono ?_;rintro e w6 ⟨rfl,hb6⟩;have HX6:=uH HX5 hb6;have HB60:=uH HB50 hb6;have HBB6:=tB HBB5 hb6;clear hb6 HA e1 HX5 HB50 HBB5
    cases hb with
    |false=>
     have HVV:Hid (V=4):=zq (by rw[<-HVB.out];simp);go_wp2;go_ret
     exact⟨by rw[HVV.out];rfl,HBB6.out⟩
    |true=>
     have e0:w6.cell? ⟨g5,0,none⟩=some (.int .i64 ri):=HX6.out.cell 0;have HA:=zq (HFR.out w6 HBB6.out);clear HFR;go_upto_region 11 with fail;go_wp2_with (with_reducible refine ldZ 58 HB60.out ?_);refine HA.out.mono ?_;rintro e w7 ⟨rfl,hb7⟩;have HBB7:=tB HBB6 hb7;have hlt:=HIX.out;clear hb7 HA e0 HX6 HB60 HBB6
     cases kk with
     |true=>
      have hlt2:R<(i:Int):=by simpa using hlt
      have HVV:Hid (V=5):=zq (by rw[<-HVB.out];simp);clear hlt;go_wp2;go_ret
      exact⟨by rw[HVV.out];rfl,HBB7.out⟩
     |false=>
      have hlt2: ¬R<(i:Int):=by simpa using hlt
      have HVV:Hid (V=0):=zq (by rw[<-HVB.out];simp);clear hlt;go_wp2;go_ret
      exact⟨by rw[HVV.out];rfl,HBB7.out⟩
end
end Go.Proofs.YtahadmeilajdgaaGreatDoor
