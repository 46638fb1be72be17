/-
  Our own text, joined.
-/
import Derived.Test.YtahadmeilajdgaaGreatDoorMtac
import Derived.BigQuiet
import Derived.IntWalk
import Derived.Test.YtahadmeilajdgaaGreatDoorMtaa
import Derived.Test.YtahadmeilajdgaaGreatDoorMtab
import Derived.Deep.LoopGhost
namespace Go.Proofs.YtahadmeilajdgaaGreatDoor
set_option maxRecDepth 100000
set_option maxHeartbeats 20000000
section
open Go.RowKit
open Go.Great
theorem flat_set15 (o:List Sn3)(s:Sn3)(y:Int):(o++[(⟨s.edge,s.lo,y⟩:Sn3)]).flatMap snC=((o++[s]).flatMap snC).set (o.length*3+2) (.int .i64 y):=by
 have hl:=qbx (f:=snC) (k:=3) (fun _=>rfl) o;rw[List.flatMap_append,List.flatMap_append,List.set_append_right _ _ (by rw[hl];omega),hl,show o.length*3+2-o.length*3=2 by omega]
 rfl
theorem own_hi15 {base ko co g:Nat}{w:World}{o:List Sn3}{s:Sn3}(h:OwR snC 3 119 base w (some ⟨g,0,none⟩) ko co (o++[s]))(y:Int):OwR snC 3 119 base (w.setCell ⟨g,(ko-1)*3+2,none⟩ (.int .i64 y)) (some ⟨g,0,none⟩) ko co (setHi (o++[s]) y):=by
 have hl:o.length=ko-1:=by
  have:=h.2;simp at this;omega
 rw[setHi_snoc];exact h.set (by have:=h.2;simp at this⊢;omega) (by rw[flat_set15,hl])
theorem succ_j {j:Nat}(h:j<=8000):IntKind.i64.wrap ((j:Int)+1)=(j:Int)+1:=by
 rw[IntKind.wrap_i64];omega
theorem qeG {l:List Sn3}{i:Nat}{x:Sn3}(hx:l[i]?=some x):qbQ [] (l.take (i+1))=insL x.edge (qbQ [] (l.take i)):=by
 unfold qbQ;rw[List.take_add_one,hx,List.foldl_append]
 rfl
theorem qfd {l:List Sn3}{i:Nat}{x:Sn3}(hx:l[i]?=some x):endsF [] (l.take (i+1))=insL x.hi (insL x.lo (endsF [] (l.take i))):=by
 unfold endsF;rw[List.take_add_one,hx,List.foldl_append]
 rfl
theorem qbk {α:Type}{l:List α}{i:Nat}{x:α}(hx:l[i]?=some x):l.drop i=x::l.drop (i+1):=by
 obtain⟨h1,e⟩:=List.getElem?_eq_some_iff.1 hx;rw[List.drop_eq_getElem_cons h1,e]
theorem fin_stop15 (e:Int)(f:Int->Bool)(out:List Sn3)(o:Bool){l:List Int}{j:Nat}(h: ¬j+1<l.length):fin15 e f out o (l.drop j)=out:=by
 cases hq:l.drop j with
 |nil=>rw[fin15]
 |cons x r=>
  have h1:(l.drop j).length=r.length+1:=by rw[hq];rfl
  rw[List.length_drop]at h1;obtain rfl:r=[]:=List.eq_nil_of_length_eq_zero (by omega);rw[fin15]
theorem fin_step15 {e:Int}{f:Int->Bool}{out:List Sn3}{o:Bool}{l:List Int}{j:Nat}{x y:Int}(hx:l[j]?=some x)(hy:l[j+1]?=some y):fin15 e f out o (l.drop j)=if f x=true then(if o=true then fin15 e f (setHi out y) true (l.drop (j+1))else fin15 e f (out++[⟨e,x,y⟩]) true (l.drop (j+1)))else fin15 e f out false (l.drop (j+1)):=by
 rw[qbk hx,qbk hy,fin15,<-qbk hy]
theorem setHi_len15 (l:List Sn3)(y:Int):(setHi l y).length=l.length:=by
 unfold setHi
 cases hq:l.getLast? with
 |none=>
  rw[List.getLast?_eq_none_iff.1 hq]
 |some s=>
  obtain⟨m,rfl⟩:=List.getLast?_eq_some_iff.1 hq;simp
theorem qgc (e:Int)(f:Int->Bool)(out:List Sn3)(o:Bool)(l:List Int):out.length<=(fin15 e f out o l).length:=by
 induction l generalizing out o with
 |nil=>exact Nat.le_of_eq (by rw[fin15])
 |cons x t ih=>
  cases t with
  |nil=>exact Nat.le_of_eq (by rw[fin15])
  |cons y r=>
   rw[fin15];split
   ·split
    ·refine Nat.le_trans (Nat.le_of_eq ?_) (ih _ _)
     rw[setHi_len15]
    ·refine Nat.le_trans ?_ (ih _ _)
     simp
   ·exact ih _ _
theorem fin_ge15 (F:Int->Int->Bool)(en:List Int)(out:List Sn3)(l:List Int):out.length<=(finE F en out l).length:=by
 induction l generalizing out with
 |nil=>exact Nat.le_refl _
 |cons e r ih=>exact Nat.le_trans (qgc _ _ _ _ _) (ih _)
theorem snoc15 {α:Type}{l:List α}(h:l≠[]): ∃o s,l=o++[s]:=⟨l.dropLast,l.getLast h,(List.dropLast_concat_getLast h).symm⟩
theorem rsform_any (a b:List Sn3)(k:Kp3)(A B:Option Addr)(n c m d:Nat)(w:World)(ha:SlO snC 3 w A n c a)(hb:SlO snC 3 w B m d b)(hn:n<=2000)(hm:m<=2000):
  Calls Tryz.prog 196 #[.slice A n c,.slice B m d,.agg #[.bool k.one,.bool k.other,.bool k.common]] w fun r w'=> ∃X x,r= .returned (.slice X (formL a b k).length x)/\SlO snC 3 w' X (formL a b k).length x (formL a b k)/\(formL a b k).length<=x/\Below w.heap.size w w':=by
 obtain⟨R,hR⟩:=geZ (formL a b k);have HR:=zq (show finE (wantF a b k) (endsF [] (a++b)) [] (qbQ [] (a++b))=R from hR);have HRL:=zq (show R.length<=8000 from by rw[<-hR];have h1_:=form_few a b k;have h2_:=ha.1;have h3_:=hb.1;omega);rw[hR];clear hR;have HNA:=zq hn;have HNB:=zq hm;have HLA:=zq ha.1;have HLB:=zq hb.1;obtain⟨wa,hwa,hbwa,HWA,HBWA,h0⟩:=bx1Z w 239 #[.bool k.one,.bool k.other,.bool k.common];have HA:=zq (fun W (hW:Below w.heap.size w W)=>ha.under hW);have HBB:=zq (fun W (hW:Below w.heap.size w W)=>hb.under hW);have HG0:=zH h0;obtain⟨hO,hSL,h1,hBD⟩:=pourR (f:=snC) (k:=3) (e:=119) 24 (OwR.nil snC 3 119 wa.heap.size wa) (ha.under hbwa) qbj (Nat.le_refl _) (by omega) (by omega);have HBA:=zq (fun W (hW:Below wa.heap.size wa W)=>hbwa.trans (hW.mono hbwa.size));clear hwa hbwa h0 ha hb HBWA;go_enter Tryz.func196,Tryz.ntmps196;go_upto_region 1 with fail;rw[HWA.out];clear HWA;go_wp2_with (with_reducible refine qaG (o:=⟨some 19,_,_,_,_,_⟩) rfl (.const (.slice none 0 0)) (.tmp 18) 52 rfl wa.heap.size 119 (.agg #[.int .i64 0,.int .i64 0,.int .i64 0]) 3 24 Tryz.underlying52 qaR ?hz1 (by decide) none (0) 0 (([]).flatMap snC) ?hs1 hO A n c ((a).flatMap snC) ?hx1 hSL h1 hBD ?next1)
 all_goals try rfl
 intro A1 c1 v1 ho hg;have HO:=zq (show OwR snC 3 119 wa.heap.size v1 A1 n c1 a from⟨ho.out,HLA.out⟩);have HB:=zq (qai (Below.refl wa.heap.size wa) (Nat.le_refl _) hO.out (Nat.le_refl _) rfl hg.out);clear ho hg hO hSL h1 hBD;obtain⟨hO,hSL,h1,hBD⟩:=pourR (f:=snC) (k:=3) (e:=119) 24 HO.out (HBB.out v1 (HBA.out v1 HB.out)) qbj HB.out.size (by have h_:=HNA.out;have h2_:=HNB.out;omega) (by omega);go_upto_region 2 with fail;go_wp2_with (with_reducible refine qaG (o:=⟨some 22,_,_,_,_,_⟩) rfl (.tmp 20) (.tmp 21) 52 rfl wa.heap.size 119 (.agg #[.int .i64 0,.int .i64 0,.int .i64 0]) 3 24 Tryz.underlying52 qaR ?hz2 (by decide) A1 (n) c1 ((a).flatMap snC) ?hs2 hO B m d ((b).flatMap snC) ?hx2 hSL h1 hBD ?next2)
 all_goals try rfl
 intro A2 c2 v2 ho hg;have HO:=zq (OwR.poured HLA.out HLB.out ho.out);have HB:=zq (qai HB.out HB.out.size hO.out (Nat.le_refl _) rfl hg.out);clear ho hg hO hSL h1 hBD;obtain⟨N,hN⟩:=geZ (n+m);have HN:=zq (show N<=4000 from by have h_:=HNA.out;have h2_:=HNB.out;omega);rw[hN]at HO;simp only[hN];have HLN:=zq HO.out.2;have HALL:=zq (fun W (hW:Below v2.heap.size v2 W)=>HO.out.sl.under hW);have HB2:=zq HB.out;clear hN HO HB;obtain⟨L,hL⟩:=geZ (a++b);rw[hL]at HR HLN HALL;clear hL;have hn2:N<=4000:=HN.out;go_wp2;go_loopg [8,9,10] N (fun kk v8 v9 v10 wl=> ∃(i ke kd:Nat) (Ae Ad:Option Addr) (ce cd:Nat),i<=N/\N-i<=kk/\v10= .int .i64 i/\v8= .slice Ae ke ce/\v9= .slice Ad kd cd/\Hid (SlO inC 1 wl Ae ke ce (qbQ [] (L.take i)))/\Hid (SlO inC 1 wl Ad kd cd (endsF [] (L.take i)))/\Hid (Below v2.heap.size v2 wl))
 case atStart=>exact⟨0,0,0,none,none,0,0,by omega,by omega,rfl,rfl,rfl,zq (SlO.nil _ _ _),zq (SlO.nil _ _ _),zq (Below.refl _ _)⟩
 obtain⟨i,ke,kd,Ae,Ad,ce,cd,hi,hik,rfl,rfl,rfl,HE,HD,HB⟩:=hrel;have HKE:=zq (show ke<=i from by have h1_:=HE.out.1;have h2_:=edges_len [] (L.take i);rw[List.length_take]at h2_;have h3_:([]:List Int).length=0:=rfl;omega);have HKD:=zq (show kd<=2*i from by have h1_:=HD.out.1;have h2_:=ends_len [] (L.take i);rw[List.length_take]at h2_;have h3_:([]:List Int).length=0:=rfl;omega);by_cases hlt:i<N
 ·obtain⟨x,hx⟩:=glZ L (i) (by rw[HLN.out];omega)
  have HX:=zq hx;obtain⟨bk,off,rfl,d0,-,-⟩:=(HALL.out wr HB.out).span hx;have HCX:=zq (fun W (hW:Below v2.heap.size v2 W)=>(show W.cell? ⟨bk,off+i*3+1,none⟩=some (.int .i64 x.lo)/\W.cell? ⟨bk,off+i*3+2,none⟩=some (.int .i64 x.hi)from by obtain⟨b_,o_,e_,-,h1_,h2_⟩:=(HALL.out W hW).span HX.out;injection e_ with e_;injection e_ with e1_ e2_ _;subst e1_ e2_;exact⟨h1_,h2_⟩));clear hx;have x1:(i:Int)<N:=by omega
  have x2:(0:Int)<=i:=by omega
  obtain⟨w1,hw1⟩: ∃w1,w1=wr:=⟨_,rfl⟩
  subst hw1;go_upto_region 8 with fail;go_wp2_with fail;refine(qev (qbQ [] (L.take i)) x.edge Ae ke ce w1 HE.out (by have h1_:=HKE.out;have h2_:=HN.out;omega)).mono ?_;rintro e_ u1 ⟨B1,e1,rfl,hs,hb⟩;rw[<-qeG HX.out]at hs;rw[<-qeG HX.out];obtain⟨ke1,hke1⟩: ∃q,(qbQ [] (L.take (i+1))).length=q:=⟨_,rfl⟩
  rw[hke1]at hs;simp only[hke1];have HE1:=zq hs;have HD1:=zq (HD.out.under hb);have HB1:=tB HB hb;have d1:=(HCX.out u1 HB1.out).1;clear hs hb hke1 d0;go_wp2_with fail;refine(qev (endsF [] (L.take i)) x.lo Ad kd cd u1 HD1.out (by have h1_:=HKD.out;have h2_:=HN.out;omega)).mono ?_;rintro e_ u2 ⟨B2,e2,rfl,hs,hb⟩;obtain⟨kd1,hkd1⟩: ∃q,(insL x.lo (endsF [] (L.take i))).length=q:=⟨_,rfl⟩
  have HKD1:=zq (show kd1<=kd+1 from by rw[<-hkd1];have h1_:=ins_len x.lo (endsF [] (L.take i));have h2_:=HD1.out.1;omega);rw[hkd1]at hs;simp only[hkd1];have HE2:=zq (HE1.out.under hb);have HD2:=zq hs;have HB2':=tB HB1 hb;have d2:=(HCX.out u2 HB2'.out).2;clear hs hb hkd1 d1;go_wp2_with fail;refine(qev (insL x.lo (endsF [] (L.take i))) x.hi B2 kd1 e2 u2 HD2.out (by have h1_:=HKD1.out;have h2_:=HN.out;have h3_:=HKD.out;omega)).mono ?_;rintro e_ u3 ⟨B3,e3,rfl,hs,hb⟩;rw[<-qfd HX.out]at hs;rw[<-qfd HX.out];obtain⟨kd2,hkd2⟩: ∃q,(endsF [] (L.take (i+1))).length=q:=⟨_,rfl⟩
  rw[hkd2]at hs;simp only[hkd2];have HE3:=zq (HE2.out.under hb);have HD3:=zq hs;have HB3:=zq (HB2'.out.trans (hb.mono HB2'.out.size));clear hs hb hkd2 d2 HE HD HE1 HD1 HE2 HD2 HB HB1 HB2';go_wp2;go_roundg (gk-1)
  case measure=>omega
  case rel=>exact⟨i+1,ke1,kd2,B1,B3,e1,e3,by omega,by omega,by go_num,rfl,rfl,HE3,HD3,HB3⟩
 obtain rfl:i=N:=by omega
 have x1: ¬(i:Int)<i:=by omega
 rw[List.take_of_length_le (Nat.le_of_eq HLN.out)]at HE HD;clear hik hlt HALL HLN;obtain⟨es,hes⟩: ∃q,qbQ [] L=q:=⟨_,rfl⟩
 obtain⟨en,hen⟩: ∃q,endsF [] L=q:=⟨_,rfl⟩
 rw[hes]at HE HR;rw[hen]at HD HR;clear hes hen;obtain⟨w3,hw3⟩: ∃w3,w3=wr:=⟨_,rfl⟩
 subst hw3;have HLE:=zq HE.out.1;have HLD:=zq HD.out.1;have HES:=zq (fun W (hW:Below w3.heap.size w3 W)=>HE.out.under hW);have HEN:=zq (fun W (hW:Below w3.heap.size w3 W)=>HD.out.under hW);have HBW:=zq (HB2.out.trans (HB.out.mono HB2.out.size));have HBX:=zq (fun W (hW:Below w3.heap.size w3 W)=>HBA.out W (bu HBW.out hW));have HGK:=zq (fun W (hW:Below w3.heap.size w3 W)=>HG0.out W (bu HBW.out hW));have hke:ke<=4000:=by have:=HKE.out;omega
 have hkd:kd<=8000:=by have:=HKD.out;omega
 have hke:ke<=4000:=by have:=HKE.out;omega
 have hkd:kd<=8000:=by have:=HKD.out;omega
 clear HE HD HB HB2 HKE HKD HBA HG0 HBW HN hn2 hi;obtain⟨F,hF⟩:=geZ (wantF a b k);rw[hF]at HR;have HF:=zq (show∀e x,wantB k (hasL a e x) (hasL b e x)=F e x from fun e x=>by rw[<-hF];rfl);clear hF;go_upto_region 12 with fail;clear x1;go_wp2;go_loopg [11,12] ke (fun kk v11 v12 wl=> ∃(i ko co:Nat) (Ao:Option Addr) (out:List Sn3),i<=ke/\ke-i<=kk/\v12= .int .i64 i/\v11= .slice Ao ko co/\Hid (OwR snC 3 119 w3.heap.size wl Ao ko co out)/\Hid (finE F en out (es.drop i)=R)/\Hid (ko<=8000)/\Hid (Below w3.heap.size w3 wl))
 case atStart=>exact⟨0,0,0,none,[],by omega,by omega,rfl,rfl,zq (OwR.nil _ _ _ _ _),zq HR.out,zq (by omega),zq (Below.refl _ _)⟩
 obtain⟨i,ko,co,Ao,out,hi,hik,rfl,rfl,HO,HFI,HKO,HB⟩:=hrel;by_cases hlt:i<ke;rotate_left
 ·obtain rfl:i=ke:=by omega
  have x1: ¬(i:Int)<i:=by omega
  have HD0:Hid (out=R):=zq (by rw[<-HFI.out,List.drop_of_length_le (Nat.le_of_eq HLE.out)];rfl);have hlo:=HO.out.2;clear hik hlt hi;go_wp2;go_ret
  rw[<-HD0.out,hlo];exact⟨Ao,co,rfl,HO.out.sl,HO.out.cap,HBX.out _ HB.out⟩
 obtain⟨e,he⟩: ∃x,es[i]?=some x:=⟨_,List.getElem?_eq_getElem (by rw[HLE.out];omega)⟩
 have HEI:=zq he;obtain⟨be,oe,rfl,-⟩:=(HES.out wr HB.out).num he;have HCE:=zq (fun W (hW:Below w3.heap.size w3 W)=>(show W.cell? ⟨be,oe+i,none⟩=some (.int .i64 e)from by obtain⟨b_,o_,e_,h1_⟩:=(HES.out W hW).num HEI.out;injection e_ with e_;injection e_ with e1_ e2_ _;subst e1_ e2_;exact h1_));have HFJ:=zq (show finE F en (fin15 e (F e) out false (en.drop 0)) (es.drop (i+1))=R from by rw[List.drop_zero,<-HFI.out,qbk HEI.out];rfl);clear he;have x1:(i:Int)<ke:=by omega
 have x2:(0:Int)<=i:=by omega
 have HKO2:=zq HKO.out;obtain⟨k1,hk1⟩: ∃k1,k1=gk:=⟨_,rfl⟩
 subst hk1;go_upto_region 16 with fail;go_wp2;go_loopg [11,13,14] kd (fun kk v11 v13 v14 wl=> ∃(j ko co:Nat) (Ao:Option Addr) (out:List Sn3) (op:Bool),j<=kd/\kd-j<=kk/\v14= .int .i64 j/\v13= .bool op/\v11= .slice Ao ko co/\Hid (OwR snC 3 119 w3.heap.size wl Ao ko co out)/\Hid (finE F en (fin15 e (F e) out op (en.drop j)) (es.drop (i+1))=R)/\Hid (ko<=8000/\(op=true->1<=ko))/\Hid (Below w3.heap.size w3 wl))
 case atStart=>exact⟨0,ko,co,Ao,out,false,by omega,by omega,rfl,rfl,rfl,HO,HFJ,zq ⟨by have:=HKO.out;omega,fun h=>by cases h⟩,HB⟩
 clear HO HFI HKO HB HFJ;obtain⟨j,ko,co,Ao,out,op,hj,hjk,rfl,rfl,rfl,HO,HFJ,HKO,HB⟩:=hrel;have hjb:j<=8000:=by omega
 by_cases hjl:j+1<kd;rotate_left
 ·have y1: ¬(j:Int)+1<kd:=by omega
  have HFS:=zq (show finE F en out (es.drop (i+1))=R from by rw[<-HFJ.out,fin_stop15 _ _ _ _ (by rw[HLD.out];exact hjl)]);have HKF:=zq (show ko<=8000 from by have:=HKO.out.1;omega);clear hjl;go_wp2;go_roundg (k1-1)
  case measure=>omega
  case rel=>exact⟨i+1,ko,co,Ao,out,by omega,by omega,by go_num,rfl,HO,HFS,HKF,HB⟩
 obtain⟨X,hX⟩: ∃x,en[j]?=some x:=⟨_,List.getElem?_eq_getElem (by rw[HLD.out];omega)⟩
 obtain⟨Y,hY⟩: ∃x,en[j+1]?=some x:=⟨_,List.getElem?_eq_getElem (by rw[HLD.out];omega)⟩
 have HX:=zq hX;have HY:=zq hY;obtain⟨bd,od,rfl,-⟩:=(HEN.out wr HB.out).num hX;have HCX:=zq (fun W (hW:Below w3.heap.size w3 W)=>(show W.cell? ⟨bd,od+j,none⟩=some (.int .i64 X)from by obtain⟨b_,o_,e_,h1_⟩:=(HEN.out W hW).num HX.out;injection e_ with e_;injection e_ with e1_ e2_ _;subst e1_ e2_;exact h1_));have HCY:=zq (fun W (hW:Below w3.heap.size w3 W)=>(show W.cell? ⟨bd,od+(j+1),none⟩=some (.int .i64 Y)from by obtain⟨b_,o_,e_,h1_⟩:=(HEN.out W hW).num HY.out;injection e_ with e_;injection e_ with e1_ e2_ _;subst e1_ e2_;exact h1_));clear hX hY;have y1:(j:Int)+1<kd:=by omega
 have y2:(0:Int)<=(j:Int)+1:=by omega
 have y3:(j:Int)<kd:=by omega
 have y4:(0:Int)<=j:=by omega
 obtain⟨xa,hxa⟩: ∃q,hasL a e X=q:=⟨_,rfl⟩
 obtain⟨xb,hxb⟩: ∃q,hasL b e X=q:=⟨_,rfl⟩
 obtain⟨z,hz⟩: ∃q,F e X=q:=⟨_,rfl⟩
 have HXA:=zq hxa;have HXB:=zq hxb;have HZ:=zq (show wantB k xa xb=z from by rw[<-hxa,<-hxb,<-hz];exact HF.out e X);have HFZ:=zq hz;clear hxa hxb hz;have HFT:=zq (HFJ.out.symm.trans (by rw[fin_step15 HX.out HY.out,HFZ.out]));clear HFJ;obtain⟨k2,hk2⟩: ∃k2,k2=gk:=⟨_,rfl⟩
 subst hk2;obtain⟨wv,hwv⟩: ∃wv,wv=wr:=⟨_,rfl⟩
 subst hwv;have HBT:=zq (fun W (hW:Below wv.heap.size wv W)=>HB.out.trans (hW.mono HB.out.size));go_upto_region 19 with fail;refine wp_region_held_drew (S:=(fun W_=>Has W_ (w.heap.size) 239 #[.bool k.one,.bool k.other,.bool k.common]/\Below wv.heap.size wv W_)) (by kernel_rfl) ?_ (fun hHeld=>?_)
 ·exact⟨(HGK.out wv HB.out).draw,qaf (Below.refl _ _)⟩
 refine tkZ 0 63 (h:=?_);simp only[lyZ];refine tkZ 1 64 (h:=?_);simp only[lyZ];refine tkZ 2 65 (h:=?_);simp only[lyZ];refine tkZ 3 66 (h:=?_);simp only[lyZ];refine tqZ 4 67 (fun w_ hSw=>HCE.out w_ (HBT.out w_ hSw.2)) (h:=?_);simp only[lyZ];refine tkZ 5 68 (h:=?_);simp only[lyZ];refine tkZ 6 69 (h:=?_);simp only[lyZ];refine tkZ 7 70 (h:=?_);simp only[lyZ];refine tqZ 8 71 (fun w_ hSw=>HCX.out w_ (HBT.out w_ hSw.2)) (h:=?_);simp only[lyZ];refine rdZ [9] ?_;refine acZ (some 72) (fun K hK=>?_) ?_
 ·go_simp
  obtain⟨s0,s1⟩:=hHeld;refine(rshas_any a A n c e X _ (HA.out _ (HBX.out _ (HBT.out _ s1))) (by have:=HNA.out;omega)).mono ?_;rw[HXA.out];rintro e_ u1 ⟨rfl,hbs⟩;go_wp2_with fail;refine hK.out _ _ ?_ (fun hHeld=>?_)
  ·exact⟨s0.u hbs,bu s1 hbs⟩
  clear hK K s0 s1
  try simp only[lyZ]
  refine tkZ 10 15 (h:=?_);simp only[lyZ];refine dnZ ?_;have HV:=zq hHeld;clear hHeld;go_upto_region 20 with fail;refine wp_region_held_drew (S:=(fun W_=>Has W_ (w.heap.size) 239 #[.bool k.one,.bool k.other,.bool k.common]/\Below wv.heap.size wv W_)) (by kernel_rfl) ?_ (fun hHeld=>?_)
  ·exact⟨HV.out.1.draw,qaf HV.out.2⟩
  refine tkZ 0 73 (h:=?_);simp only[lyZ];refine tkZ 1 74 (h:=?_);simp only[lyZ];refine tkZ 2 75 (h:=?_);simp only[lyZ];refine tkZ 3 76 (h:=?_);simp only[lyZ];refine tqZ 4 77 (fun w_ hSw=>HCE.out w_ (HBT.out w_ hSw.2)) (h:=?_);simp only[lyZ];refine tkZ 5 78 (h:=?_);simp only[lyZ];refine tkZ 6 79 (h:=?_);simp only[lyZ];refine tkZ 7 80 (h:=?_);simp only[lyZ];refine tqZ 8 81 (fun w_ hSw=>HCX.out w_ (HBT.out w_ hSw.2)) (h:=?_);simp only[lyZ];refine rdZ [9] ?_;refine acZ (some 82) (fun K hK=>?_) ?_
  ·go_simp
   obtain⟨s0,s1⟩:=hHeld;refine(rshas_any b B m d e X _ (HBB.out _ (HBX.out _ (HBT.out _ s1))) (by have:=HNB.out;omega)).mono ?_;rw[HXB.out];rintro e_ u2 ⟨rfl,hbs⟩;go_wp2_with fail;refine hK.out _ _ ?_ (fun hHeld=>?_)
   ·exact⟨s0.u hbs,bu s1 hbs⟩
   clear hK K s0 s1
   try simp only[lyZ]
   refine tkZ 10 16 (h:=?_);simp only[lyZ];refine dnZ ?_;have HV2:=zq (HBT.out _ hHeld.2);have HOV:=zq (HO.out.under hHeld.2);clear hHeld HV HBT;obtain⟨wq,hwq⟩: ∃wq,wq=u2:=⟨_,rfl⟩
   subst hwq;have HGQ:=zq (HGK.out wq HV2.out);go_upto_region 21 with fail;go_wp2_with (with_reducible refine ldZ 83 HGQ.out ?_);refine(rswant_any k xa xb wq).mono ?_;rw[HZ.out];rintro e_ u3 ⟨rfl,hb⟩;have HO3:=zq (HOV.out.under hb);have HB3:=tB HV2 hb;clear hb HOV HV2 HGQ HO HB
   cases z with
   |false=>
    clear y1 y2;go_wp2;go_roundg (k2-1)
    case measure=>omega
    case rel=>
     exact⟨j+1,ko,co,Ao,out,false,by omega,by omega,by go_num,rfl,rfl,HO3,zq (by have h_:=HFT.out;rw[if_neg (by decide)]at h_;exact h_.symm),zq ⟨by have:=HKO.out.1;omega,fun h=>by cases h⟩,HB3⟩
   |true=>
    cases op with
    |true=>
     have hko:=HKO.out.2 (by first|rfl|trivial);obtain⟨o0,s,ho⟩:=snoc15 (l:=out) (fun h=>by have h1_:=HO3.out.2;rw[h]at h1_;have h2_:([]:List Sn3).length=0:=rfl;omega);subst ho;obtain⟨go,rfl,hgo1,hgo2⟩:=HO3.out.some hko;have hol:o0.length=ko-1:=by have h_:=HO3.out.2;simp at h_;omega
     have hkb:ko<=1000000:=by have:=HKO.out.1;omega
     have t0:u3.cell? ⟨go,(ko-1)*3+2,none⟩=some (.int .i64 s.hi):=by have h_:=HO3.out.sl.at_cell (f:=snC) (fun _=>rfl) (by decide) (j:=ko-1) (x:=s) (by rw[<-hol];simp) (i:=2) (u:= .int .i64 s.hi) rfl;rw[Nat.zero_add]at h_;exact h_
     have t1:u3.frozen? ⟨go,(ko-1)*3+2,none⟩=false:=HO3.out.thaw _;have cy:=HCY.out u3 HB3.out;have z1:(0:Int)<=(ko:Int)-1:=by omega
     have z2:(ko:Int)-1<ko:=by omega
     have z3:1<=ko:=hko;obtain⟨u4,hu4⟩:=geZ (u3.setCell ⟨go,(ko-1)*3+2,none⟩ (.int .i64 Y));have HO4:=zq (show OwR _ _ _ _ u4 _ _ _ _ from by rw[<-hu4];exact own_hi15 HO3.out Y);have HB4:=zq (show Below w3.heap.size w3 u4 from by rw[<-hu4];exact qaj HB3.out (qbW (qa3 _ (some go)) rfl _) HB3.out.size hgo1);have HU4:=zq hu4;clear hu4 hol hgo1 hgo2;go_upto_region 26 with fail;rw[HU4.out];clear HU4 t0 t1 cy z1 z2 z3 hkb;go_wp2;go_roundg (k2-1)
     case measure=>omega
     case rel=>
      exact⟨j+1,ko,co,_,_,true,by omega,by omega,by go_num,rfl,rfl,HO4,zq (by have h_:=HFT.out;simp only[ite_true]at h_;exact h_.symm),zq ⟨by have:=HKO.out.1;omega,fun _=>hko⟩,HB4⟩
    |false=>
     have hwj2:IntKind.i64.wrap ((j:Int)+1)=(j:Int)+1:=succ_j hjb;go_upto_region 25 with fail;refine wp_region_held_drew (S:=(fun W_=>Below w3.heap.size w3 W_)) (by kernel_rfl) ?_ (fun hHeld=>?_)
     ·exact qaf HB3.out
     refine tkZ 0 103 (h:=?_);simp only[lyZ];refine tkZ 1 104 (h:=?_);simp only[lyZ];refine tkZ 2 105 (h:=?_);simp only[lyZ];refine tkZ 3 106 (h:=?_);simp only[lyZ];refine tqZ 4 107 (fun w_ hSw=>HCE.out w_ hSw) (h:=?_);simp only[lyZ];refine tkZ 5 108 (h:=?_);simp only[lyZ];refine tkZ 6 109 (h:=?_);simp only[lyZ];refine tkZ 7 110 (h:=?_);simp only[lyZ];refine tqZ 8 111 (fun w_ hSw=>HCX.out w_ hSw) (h:=?_);simp only[lyZ];refine tkZ 9 112 (h:=?_);simp only[lyZ];refine tkZ 10 113 (h:=?_);simp only[lyZ];refine tkZ 11 114 (h:=?_);simp only[lyZ];refine tkZ 12 115 (h:=?_);simp only[lyZ];refine tqZ 13 116 (fun w_ hSw=>HCY.out w_ hSw) (h:=?_);simp only[lyZ];refine tkZ 14 117 (h:=?_);simp only[lyZ];refine aoZ 15 (some 118) (fun K hK=>?_);go_simp;have HO4:=zq (show OwR snC 3 119 w3.heap.size u3.drew Ao ko co out from HO3.out.draws 1);have hsz:w3.heap.size<=u3.drew.heap.size:=HB3.out.size;obtain⟨hN,hO,hC,h1,hBD⟩:=pushR (f:=snC) (k:=3) (e:=119) 24 ⟨e,X,Y⟩ #[.int .i64 e,.int .i64 X,.int .i64 Y] rfl rfl (qbj _) HO4.out hsz (by have:=HKO.out.1;omega) (by omega);have hbw:Below w3.heap.size w3 (u3.drew.alloc (.cells #[.int .i64 e,.int .i64 X,.int .i64 Y] 119)):=(qaf HB3.out).alloc hsz _;have HBW4:=zq hbw;have HLN:=zq HO4.out.2;refine hK.out _ _ ?_ (fun hHeld=>?_)
     ·exact hbw
     clear hK K hHeld hbw
     try simp only[lyZ]
     refine aoZ 16 (some 119) (fun K hK=>?_);refine step_push (o:=⟨some 119,_,_,_,_,_⟩) rfl (.tmp 103) (.tmp 118) 52 rfl w3.heap.size 119 (.agg #[.int .i64 0,.int .i64 0,.int .i64 0]) 3 24 Tryz.underlying52 qaR rfl (by decide) Ao (ko) co (out.flatMap snC) rfl hO ⟨u3.drew.heap.size,0,none⟩ 1 1 (snC ⟨e,X,Y⟩) rfl hN hC h1 hBD ?_;intro A5 c5 u5 ho hg;have HO5:=zq (OwR.snoc HLN.out ho.out);have HB5:=zq (qai HBW4.out HBW4.out.size hO.out (Nat.le_refl _) rfl hg.out);refine hK.out _ _ ?_ (fun hHeld=>?_)
     ·exact HB5.out
     clear hK K hHeld ho hg hN hO hC h1 hBD HBW4 HLN HO4 hsz
     try simp only[lyZ]
     refine tkZ 17 11 (h:=?_);simp only[lyZ];refine dnZ ?_;go_wp2;go_roundg (k2-1)
     case measure=>omega
     case rel=>
      exact⟨j+1,ko+1,c5,A5,_,true,by omega,by omega,by go_num,rfl,rfl,HO5,zq (by have h_:=HFT.out;simp only[ite_true,Bool.false_eq_true,ite_false]at h_;exact h_.symm),zq ⟨by have h_:=HFT.out;simp only[ite_true,Bool.false_eq_true,ite_false]at h_;have h1_:=HRL.out;rw[h_]at h1_;have h2_:=HO5.out.2;rw[<-h2_];exact Nat.le_trans (Nat.le_trans (qgc _ _ _ _ _) (fin_ge15 _ _ _ _)) h1_,fun _=>by omega⟩,HB5⟩
  exact AllReadyH.nil
 exact AllReadyH.nil
end
section
open Go.RowKit
open Go.Great
theorem rsnorm_any (l:List Sn3)(A:Option Addr)(n c:Nat)(w:World)(hs:SlO snC 3 w A n c l)(hn:n<=2000):
  Calls Tryz.prog 154 #[.slice A n c] w fun r w'=> ∃X x,r= .returned (.slice X (normL l).length x)/\SlO snC 3 w' X (normL l).length x (normL l)/\(normL l).length<=x/\Below w.heap.size w w':=by
 have HF:=zq (rsform_any l [] ⟨true,false,false⟩ A none n c 0 0 w hs (SlO.nil _ _ _) hn (by omega));rw[show formL l [] ⟨true,false,false⟩=normL l from rfl]at HF;clear hs;go_enter Tryz.func154,Tryz.ntmps154;go_wp2_with fail;refine HF.out.mono ?_;rintro r w1 ⟨X,x,rfl,h1,h2,h3⟩;have H1:=zq h1;have H2:=zq h2;have H3:=zq h3;clear h1 h2 h3 HF;go_wp2;go_ret
 exact⟨X,x,rfl,H1.out,H2.out,H3.out⟩
end
section
open Go.RowKit
open Go.Great
theorem rlength_e (t:Tp3)(a:TpA)(path:List St3)(A:Option Addr)(n c:Nat)(w:World)(ht:TopR w t a)(hp:SlO stC 2 w A n c path)(hn:n<=1048576)(hj:t.joints.length<=100):
  Calls Tryz.prog 138 #[.agg (tpC t a),.slice A n c] w fun e w'=> ∃N:Int,e= .returned (.tuple #[.int .i64 N,.int .i64 (lenE t path)])/\Below w.heap.size w w':=by
 obtain⟨wa,hwa,hbwa,HWA,HBWA,h0⟩:=bx1Z w 27 (tpC t a);have H0:=zH h0;have HT:=zq (fun W (hW:Below w.heap.size w W)=>ht.under hW);have HP:=zq (fun W (hW:Below w.heap.size w W)=>hp.under hW);have HBA:=zq (fun W (hW:Below wa.heap.size wa W)=>hbwa.trans (hW.mono hbwa.size));have HL:=zq hp.1;obtain⟨rE,hrE⟩: ∃r,lenE t path=r:=⟨_,rfl⟩
 have HRE:=zq hrE;rw[hrE];clear hwa hbwa h0 ht hp hrE;by_cases hz:n=0
 ·have x1:(n:Int)=0:=by omega
  go_enter Tryz.func138,Tryz.ntmps138;skip;go_wp2;go_ret2
  have hE:rE=1:=by rw[<-HRE.out];unfold lenE;rw[if_pos (by have:=HL.out;omega)]
  subst hE
  first|exact⟨_,rfl,by rw[HWA.out];exact HBWA.out⟩|exact⟨⟨_,rfl⟩,by rw[HWA.out];exact HBWA.out⟩
 by_cases hf:40<n
 ·have x1: ¬(n:Int)=0:=by omega
  have x2:(40:Int)<n:=by omega
  go_enter Tryz.func138,Tryz.ntmps138;go_wp2;go_ret2
  have hE:rE=1:=by rw[<-HRE.out];unfold lenE;rw[if_pos (by have:=HL.out;omega)]
  subst hE
  first|exact⟨_,rfl,by rw[HWA.out];exact HBWA.out⟩|exact⟨⟨_,rfl⟩,by rw[HWA.out];exact HBWA.out⟩
 have x1: ¬(n:Int)=0:=by omega
 have x2: ¬(40:Int)<n:=by omega
 go_enter Tryz.func138,Tryz.ntmps138;go_upto_region 3 with fail;rw[HWA.out];clear HWA;have HNZ:=zq (show n≠0/\n<=40 from⟨hz,by omega⟩);have hz2:((n:Int)==0)=false:=by simp[hz]
 simp only[hz2];clear hz2;clear x1 x2 hz hf;go_wp2;go_loopg [6,7] n (fun kk v6 v7 wl=> ∃i:Nat,i<=n/\n-i<=kk/\v7= .int .i64 i/\(∃sv:Int,v6= .int .i64 sv)/\Hid (∀s∈path.take i,edgeB t s.edge=true)/\Below wa.heap.size wa wl)
 case atStart=>exact⟨0,by omega,by omega,rfl,⟨0,rfl⟩,zq (by simp),Below.refl _ _⟩
 obtain⟨i,hi,hik,rfl,⟨sv,rfl⟩,HED,hwr⟩:=hrel;have HWR:=zq hwr;by_cases hlt:i<n;rotate_left
 ·obtain rfl:i=n:=by omega
  have x1: ¬(i:Int)<i:=by omega
  have hti:path.take i=path:=List.take_of_length_le (by have:=HL.out;omega);have HALL:Hid (∀s∈path,edgeB t s.edge=true):=zq (by have h_:=HED.out;rw[hti]at h_;exact h_);clear hti HED hi hik hwr;go_upto_region 11 with fail;clear x1;go_wp2;go_loopg [9] i (fun kk v wl=> ∃m:Nat,1<=m/\m<=i/\i-m<=kk/\v= .int .i64 m/\Hid (∀k a b,k+1<m->path[k]?=some a->path[k+1]?=some b->mayT t a b=true)/\Below wa.heap.size wa wl)
  case atStart=>exact⟨1,by omega,by have:=HNZ.out;omega,by omega,rfl,zq (fun k a b h=>absurd h (by omega)),HWR.out⟩
  obtain⟨m,hm1,hm,hmk,rfl,HMA,hwm⟩:=hrel;have HWM:=zq hwm;by_cases hml:m<i;rotate_left
  ·obtain rfl:m=i:=by omega
   have x1: ¬(m:Int)<m:=by omega
   clear hm hmk hwm;go_wp2;go_ret2
   have h0_:lenE t path=0:=(by unfold lenE;rw[if_neg (by have h1_:=HL.out;have h2_:=HNZ.out;omega),if_pos (List.all_eq_true.2 HALL.out),if_pos (way_at.2 fun k a b ha hb=>HMA.out k a b (by have h1_:=(List.getElem?_eq_some_iff.1 hb).1;have h2_:=HL.out;omega) ha hb)])
   have hE:rE=0:=by rw[<-HRE.out];exact h0_
   subst hE
   first|exact⟨_,rfl,HBA.out _ HWM.out⟩|exact⟨⟨_,rfl⟩,HBA.out _ HWM.out⟩
  obtain⟨x,hx⟩:=glZ path (m-1) (by have:=HL.out;omega);obtain⟨y,hy⟩:=glZ path (m) (by have:=HL.out;omega);have HX:=zq hx;have HY:=zq hy;obtain⟨bk,off,rfl,-,-⟩:=(HP.out w (Below.refl _ _)).step hx;have HCX:=zq (fun W (hW:Below w.heap.size w W)=>(show W.cell? ⟨bk,off+(m-1)*2,none⟩=some (.int .i64 x.edge)/\W.cell? ⟨bk,off+(m-1)*2+1,none⟩=some (.bool x.rev)from by obtain⟨b_,o_,e_,h1_,h2_⟩:=(HP.out W hW).step hx;injection e_ with e_;injection e_ with e1_ e2_ _;subst e1_ e2_;exact⟨h1_,h2_⟩));have HCY:=zq (fun W (hW:Below w.heap.size w W)=>(show W.cell? ⟨bk,off+m*2,none⟩=some (.int .i64 y.edge)/\W.cell? ⟨bk,off+m*2+1,none⟩=some (.bool y.rev)from by obtain⟨b_,o_,e_,h1_,h2_⟩:=(HP.out W hW).step hy;injection e_ with e_;injection e_ with e1_ e2_ _;subst e1_ e2_;exact⟨h1_,h2_⟩));obtain⟨bq,hbq⟩: ∃b,mayT t x y=b:=⟨_,rfl⟩
  have HBQ:=zq hbq;have hw1:IntKind.i64.wrap ((m:Int)-1)=(m:Int)-1:=by have:=HNZ.out;rw[IntKind.wrap_i64];omega
  have hw2:((m:Int)-1).toNat=m-1:=by omega
  have y0:(0:Int)<=(m:Int)-1:=by omega
  have y1:(m:Int)-1<i:=by omega
  have y2:(0:Int)<=(m:Int):=by omega
  have y4:(1:Int)<=(m:Int):=by omega
  have y3:(m:Int)<i:=by omega
  clear hx hy hwm hbq;go_upto_region 14 with fail;refine wp_region_held_drew (S:=(fun W_=>Has W_ (w.heap.size) 27 (tpC t a)/\Below wr.heap.size wr W_)) (by kernel_rfl) ?_ (fun hHeld=>?_)
  ·exact⟨(H0.out _ HWM.out).draw,qaf (Below.refl _ _)⟩
  refine tlZ 0 51 w.heap.size (tpC t a) (fun _ ⟨h_,_⟩=>h_) (h:=?_);simp only[lyZ];refine tkZ 1 52 (h:=?_);simp only[lyZ];refine tkZ 2 53 (h:=?_);simp only[lyZ];refine tkZ 3 54 (h:=?_);simp only[lyZ];refine tkZ 4 55 (h:=?_);simp only[lyZ];refine tqZ 5 56 (fun w_ hSw=>HCX.out w_ (HBA.out w_ (HWM.out.trans (hSw.2.mono HWM.out.size)))) (h:=?_);simp only[lyZ];refine tkZ 6 57 (h:=?_);simp only[lyZ];refine tkZ 7 58 (h:=?_);simp only[lyZ];refine tkZ 8 59 (h:=?_);simp only[lyZ];refine tqZ 9 60 (fun w_ hSw=>HCY.out w_ (HBA.out w_ (HWM.out.trans (hSw.2.mono HWM.out.size)))) (h:=?_);simp only[lyZ];refine rdZ [10] ?_;refine acZ (some 61) (fun K hK=>?_) ?_
  ·go_simp
   obtain⟨s0,s1⟩:=hHeld;have hlo_:=HBA.out _ (bu HWM.out s1);refine(qe1 t a x y _ (HT.out _ hlo_).j (by omega)).mono ?_;rw[HBQ.out];rintro e_ vs ⟨rfl,hbs⟩;go_wp2_with fail;refine hK.out _ _ ?_ (fun hHeld=>?_)
   ·exact⟨s0.u hbs,bu s1 hbs⟩
   clear hK K s0 s1
   try simp only[lyZ]
   refine tkZ 11 10 (h:=?_);simp only[lyZ];refine dnZ ?_;clear hw1 hw2 y0 y1 y2 y3 y4
   cases bq with
   |false=>
    go_wp2;go_ret2
    have h1_:lenE t path=141:=by unfold lenE;rw[if_neg (by have h1_:=HL.out;have h2_:=HNZ.out;omega),if_pos (List.all_eq_true.2 HALL.out),if_neg (fun h=>by have h_:=way_at.1 h (m-1) x y HX.out (by rw[show m-1+1=m by omega];exact HY.out);rw[HBQ.out]at h_;cases h_)]
    have hE:rE=141:=by rw[<-HRE.out];exact h1_
    subst hE
    first|exact⟨_,rfl,HBA.out _ (HWM.out.trans (hHeld.2.mono HWM.out.size))⟩|exact⟨⟨_,rfl⟩,HBA.out _ (HWM.out.trans (hHeld.2.mono HWM.out.size))⟩
   |true=>
    go_wp2;go_roundg (gk-1)
    case measure=>omega
    case rel=>
     refine⟨m+1,by omega,by omega,by omega,by go_num,zq (fun k a' b' hk ha hb=>?_),HWM.out.trans (hHeld.2.mono HWM.out.size)⟩;by_cases hkm:k+1=m
     ·have e_:k=m-1:=by omega
      rw[e_,HX.out]at ha;rw[hkm,HY.out]at hb;injection ha with ha
      injection hb with hb
      rw[<-ha,<-hb];exact HBQ.out
     ·exact HMA.out k a' b' (by omega) ha hb
  exact AllReadyH.nil
 obtain⟨x,hx⟩:=glZ path (i) (by have:=HL.out;omega);have HX:=zq hx;obtain⟨bk,off,rfl,-,-⟩:=(HP.out w (Below.refl _ _)).step hx;have HCX:=zq (fun W (hW:Below w.heap.size w W)=>(show W.cell? ⟨bk,off+i*2,none⟩=some (.int .i64 x.edge)from by obtain⟨b_,o_,e_,h1_,h2_⟩:=(HP.out W hW).step hx;injection e_ with e_;injection e_ with e1_ e2_ _;subst e1_ e2_;exact h1_));obtain⟨bq,hbq⟩: ∃b,edgeB t x.edge=b:=⟨_,rfl⟩
 have HBQ:=zq hbq;have y0:(0:Int)<=(i:Int):=by omega
 have y1:(i:Int)<n:=by omega
 clear hx hbq hwr;go_upto_region 7 with fail;refine wp_region_held_drew (S:=(fun W_=>Has W_ (w.heap.size) 27 (tpC t a)/\Below wr.heap.size wr W_)) (by kernel_rfl) ?_ (fun hHeld=>?_)
 ·exact⟨(H0.out _ HWR.out).draw,qaf (Below.refl _ _)⟩
 refine tlZ 0 25 w.heap.size (tpC t a) (fun _ ⟨h_,_⟩=>h_) (h:=?_);simp only[lyZ];refine tkZ 1 26 (h:=?_);simp only[lyZ];refine tkZ 2 27 (h:=?_);simp only[lyZ];refine tkZ 3 28 (h:=?_);simp only[lyZ];refine tkZ 4 29 (h:=?_);simp only[lyZ];refine tqZ 5 30 (fun w_ hSw=>HCX.out w_ (HBA.out w_ (HWR.out.trans (hSw.2.mono HWR.out.size)))) (h:=?_);simp only[lyZ];refine rdZ [6] ?_;refine acZ (some 31) (fun K hK=>?_) ?_
 ·go_simp
  obtain⟨s0,s1⟩:=hHeld;refine(qcE t a x.edge _).mono ?_;rw[HBQ.out];rintro e_ vs ⟨rfl,hbs⟩;go_wp2_with fail;refine hK.out _ _ ?_ (fun hHeld=>?_)
  ·exact⟨s0.u hbs,bu s1 hbs⟩
  clear hK K s0 s1
  try simp only[lyZ]
  refine tkZ 7 8 (h:=?_);simp only[lyZ];refine dnZ ?_;have HBE:=zq (HWR.out.trans (hHeld.2.mono HWR.out.size));have HH0:=zq hHeld.1;clear hHeld
  cases bq with
  |false=>
   go_wp2;go_ret2
   have h1_:lenE t path=1:=by unfold lenE;rw[if_neg (by have h1_:=HL.out;have h2_:=HNZ.out;omega),if_neg (fun h=>by have h_:=List.all_eq_true.1 h x (List.mem_of_getElem? HX.out);rw[HBQ.out]at h_;cases h_)]
   have hE:rE=1:=by rw[<-HRE.out];exact h1_
   subst hE
   first|exact⟨_,rfl,HBA.out _ HBE.out⟩|exact⟨⟨_,rfl⟩,HBA.out _ HBE.out⟩
  |true=>
   have hed:0<=x.edge/\x.edge<t.edges.length:=by have h_:=HBQ.out;unfold edgeB at h_;simpa using h_
   obtain⟨e,hee⟩: ∃e:Nat,x.edge=e:=⟨x.edge.toNat,by omega⟩
   have hel:e<t.edges.length:=by omega
   have cx:=HCX.out _ (HBA.out _ HBE.out);rw[hee]at cx;obtain⟨be,oe,hae,ce⟩:=(HT.out _ (HBA.out _ HBE.out)).e.edge hel;have c0:=HH0.out.cell 0;obtain⟨q,hq⟩:=geZ (t.edges.getD e 0);rw[hq]at ce;have c0':vs.cell? ⟨w.heap.size,0,none⟩=some (.slice (some ⟨be,oe,none⟩) t.edges.length a.ce):=by first|exact c0.trans (by rw[<-hae];rfl)|(rw[<-hae];exact c0)
   have z0:(0:Int)<=e:=by omega
   have z1:(e:Int)<t.edges.length:=by omega
   obtain⟨me,hme⟩: ∃m,t.edges.length=m:=⟨_,rfl⟩
   have HME:=zq hme;rw[hme]at c0' z1;clear c0 hed hel hq hme;go_upto_region 10 with fail;go_quiet (fail);go_wp2;go_roundg (gk-1)
   case measure=>omega
   case rel=>
    refine⟨i+1,by omega,by omega,by go_num,⟨_,rfl⟩,zq (fun s hs=>?_),qac HBE.out _⟩
    ·rw[List.take_add_one,HX.out]at hs
     rcases List.mem_append.1 hs with h|h
     ·exact HED.out s h
     ·rw[List.mem_singleton.1 h];exact HBQ.out
 exact AllReadyH.nil
end
section
open Go.RowKit
open Go.Great
theorem rlength_n (t:Tp3)(a:TpA)(path:List St3)(A:Option Addr)(n c:Nat)(w:World)(ht:TopR w t a)(hp:SlO stC 2 w A n c path)(hn:n<=1048576)(hj:t.joints.length<=100):
  Calls Tryz.prog 138 #[.agg (tpC t a),.slice A n c] w fun e w'=> ∃N:Int,e= .returned (.tuple #[.int .i64 N,.int .i64 (lenE t path)])/\(qav t=true->N=lenN t path)/\Below w.heap.size w w':=by
 cases hq:qav t with
 |true=>exact(qfI t a path A n c w ht hp hn hj hq).mono fun e w' h=>⟨_,h.1,fun _=>rfl,h.2⟩
 |false=>exact(rlength_e t a path A n c w ht hp hn hj).mono fun e w' h=>by obtain⟨N,h1,h2⟩:=h;exact⟨N,h1,(fun h=>by cases h),h2⟩
theorem edges_bad {t:Tp3}{i:Nat}{x:Int}(hx:t.edges[i]?=some x)(h:x<1\/1000000<x):qav t=false:=by
 cases hq:qav t with
 |false=>rfl
 |true=>
  unfold qav at hq;have h1:=List.all_eq_true.1 hq x (List.mem_of_getElem? hx);simp only[Bool.and_eq_true,decide_eq_true_eq]at h1;omega
theorem edges_good {t:Tp3}(h: ∀(j:Nat) (x:Int),t.edges[j]?=some x->1<=x/\x<=1000000):qav t=true:=by
 unfold qav;rw[List.all_eq_true];intro x hx;obtain⟨j,hj,rfl⟩:=List.getElem_of_mem hx;have:=h j _ (List.getElem?_eq_getElem hj);simp only[Bool.and_eq_true,decide_eq_true_eq];exact this
theorem over_len {t:Tp3}{path:List St3}{fr tz:Int}(h:lenE t path≠0):overE t path fr tz=([],lenE t path):=if_neg h
theorem qgu {t:Tp3}{path:List St3}{fr tz:Int}(h:lenE t path=0)(h2:qav t=false):overE t path fr tz=([],1):=by
 unfold overE;rw[if_pos h,if_neg (by rw[h2];rintro⟨h3,_⟩;cases h3)]
theorem qfC {t:Tp3}{path:List St3}{fr tz:Int}(h:lenE t path=0)(h2:fr<0\/tz<fr\/sumT t path<tz):overE t path fr tz=([],1):=by
 unfold overE;rw[if_pos h,if_neg (fun h3=>h3.2 h2)]
theorem ov_at {t:Tp3}{fr tz at_:Int}{path:List St3}{i:Nat}{x:St3}(hx:path[i]?=some x):ovGo t fr tz (path.drop i) at_=partN x (lenAt t x) (cutA fr at_) (cutB tz at_ (lenAt t x))++ovGo t fr tz (path.drop (i+1)) (at_+lenAt t x):=by
 rw[qbk hx,ovGo]
theorem rsover_any (t:Tp3)(a:TpA)(path:List St3)(A:Option Addr)(n c:Nat)(fr tz:Int)(w:World)(ht:TopR w t a)(hp:SlO stC 2 w A n c path)(hn:n<=100)(hl:qaH t=true):
  Calls Tryz.prog 78 #[.agg (tpC t a),.slice A n c,.int .i64 fr,.int .i64 tz] w fun r w'=> ∃X x,r= .returned (.tuple #[.slice X (overE t path fr tz).1.length x,.int .i64 (overE t path fr tz).2])/\SlO snC 3 w' X (overE t path fr tz).1.length x (overE t path fr tz).1/\(overE t path fr tz).1.length<=x/\Below w.heap.size w w':=by
 obtain⟨rL,hrL⟩: ∃r,(overE t path fr tz).1=r:=⟨_,rfl⟩
 obtain⟨rE,hrE⟩: ∃r,(overE t path fr tz).2=r:=⟨_,rfl⟩
 have HOE:=zq (show overE t path fr tz=(rL,rE)from Prod.ext hrL hrE);rw[hrL,hrE];clear hrL hrE;have HNN:=zq (qax hl);have HNL:=zq hn;have HL:=zq hp.1;clear hl hn;obtain⟨wa,hwa,hbwa,HWA,HBWA,h0⟩:=bx1Z w 27 (tpC t a);have HT:=zq (fun W (hW:Below w.heap.size w W)=>ht.under hW);have HP:=zq (fun W (hW:Below w.heap.size w W)=>hp.under hW);have HG0:=zq h0;clear hwa hbwa h0 ht hp;go_enter Tryz.func78,Tryz.ntmps78;go_upto_region 1 with fail;rw[HWA.out];clear HWA;go_wp2_with (with_reducible refine ldZ 20 HG0.out ?_);refine(rlength_n t a path A n c wa (HT.out wa HBWA.out) (HP.out wa HBWA.out) (by have:=HNL.out;omega) HNN.out.2.1).mono ?_;rintro e w2 ⟨N,rfl,hN,hb⟩;have HN:=zq hN;have HB:=tB HBWA hb;have HG0:=uH HG0 hb;clear hb hN HBWA;obtain⟨lE,hlE⟩: ∃x,lenE t path=x:=⟨_,rfl⟩
 have HLE:=zq hlE;simp only[hlE];clear hlE;by_cases z0:lE=0;rotate_left
 ·have x1:(lE !=0)=true:=by simp[z0]
  have x2:(lE==0)=false:=by simp[z0]
  have HZ0:=zq z0;go_wp2;go_ret2
  obtain⟨rfl,rfl⟩:=Prod.mk.inj (show(rL,rE)=([],lE)from HOE.out.symm.trans (by rw[over_len (by rw[HLE.out];exact HZ0.out),HLE.out]));exact⟨none,0,rfl,SlO.nil _ _ _,Nat.le_refl _,HB.out⟩
 subst z0;obtain⟨ne,hne⟩: ∃m,t.edges.length=m:=⟨_,rfl⟩
 have HNE:=zq hne;have hneb:ne<=100:=by rw[<-hne];exact HNN.out.1
 have hns:(0:Int)<=ne:=by omega
 have c0:w2.cell? ⟨w.heap.size,0,none⟩=some (.slice a.ae ne a.ce):=by have h_:w2.cell? ⟨w.heap.size,0,none⟩=some (.slice a.ae t.edges.length a.ce):=HG0.out.cell 0;rw[hne]at h_;exact h_
 clear hne;go_upto_region 4 with fail;go_wp2;go_loopg [12] ne (fun kk v12 wl=> ∃i:Nat,i<=ne/\ne-i<=kk/\v12= .int .i64 i/\Hid (∀(j:Nat) (x:Int),j<i->t.edges[j]?=some x->1<=x/\x<=1000000)/\wl=w2)
 case atStart=>exact⟨0,by omega,by omega,rfl,zq (fun j x h=>absurd h (by omega)),rfl⟩
 obtain⟨i,hi,hik,rfl,HGD,rfl⟩:=hrel;by_cases hlt:i<ne
 ·obtain⟨x,hx⟩: ∃x,t.edges[i]?=some x:=⟨_,List.getElem?_eq_getElem (by rw[HNE.out];omega)⟩
  have HX:=zq hx;obtain⟨be,oe,hae,ce⟩:=(HT.out wr HB.out).e.edge (show i<t.edges.length by rw[HNE.out];omega);have hgx:t.edges.getD i 0=x:=by rw[List.getD_eq_getElem?_getD,hx];rfl
  rw[hgx]at ce;rw[hae]at c0;have y0:(0:Int)<=i:=by omega
  have y1:(i:Int)<ne:=by omega
  clear hx hae hgx;by_cases q1:x<1
  ·have HBD:=zq (edges_bad HX.out (.inl q1))
   go_wp2;go_ret2
   obtain⟨rfl,rfl⟩:=Prod.mk.inj (show(rL,rE)=([],1)from HOE.out.symm.trans (qgu HLE.out HBD.out));exact⟨none,0,rfl,SlO.nil _ _ _,Nat.le_refl _,HB.out⟩
  by_cases q2:1000000<x
  ·have HBD:=zq (edges_bad HX.out (.inr q2))
   go_wp2;go_ret2
   obtain⟨rfl,rfl⟩:=Prod.mk.inj (show(rL,rE)=([],1)from HOE.out.symm.trans (qgu HLE.out HBD.out));exact⟨none,0,rfl,SlO.nil _ _ _,Nat.le_refl _,HB.out⟩
  have HGX:=zq (show 1<=x/\x<=1000000 by omega);go_wp2;go_roundg (gk-1)
  case measure=>omega
  case rel=>
   refine⟨i+1,by omega,by omega,by go_num,zq (fun j y hj hy=>?_),rfl⟩;by_cases hji:j=i
   ·subst hji;rw[HX.out]at hy;injection hy with hy;rw[<-hy];exact HGX.out
   ·exact HGD.out j y (by omega) hy
 obtain rfl:i=ne:=by omega
 have x1: ¬(i:Int)<i:=by omega
 have HED:=zq (edges_good (t:=t) fun j x hx=>HGD.out j x (by have h_:=(List.getElem?_eq_some_iff.1 hx).1;rw[HNE.out]at h_;exact h_) hx);have HSN:=zq (show N=sumT t path from by rw[HN.out HED.out];unfold lenN;rw[HLE.out];rfl);obtain⟨ne,hnn⟩: ∃m,m=i:=⟨_,rfl⟩
 subst hnn;clear hik hlt hi HGD;by_cases q1:fr<0
 ·skip
  have Q1:=zq q1;go_wp2;go_ret2
  obtain⟨rfl,rfl⟩:=Prod.mk.inj (show(rL,rE)=([],1)from HOE.out.symm.trans (qfC HLE.out (.inl Q1.out)));exact⟨none,0,rfl,SlO.nil _ _ _,Nat.le_refl _,HB.out⟩
 by_cases q2:tz<fr
 ·skip
  have Q2:=zq q2;go_wp2;go_ret2
  obtain⟨rfl,rfl⟩:=Prod.mk.inj (show(rL,rE)=([],1)from HOE.out.symm.trans (qfC HLE.out (.inr (.inl Q2.out))));exact⟨none,0,rfl,SlO.nil _ _ _,Nat.le_refl _,HB.out⟩
 by_cases q3:N<tz
 ·skip
  have Q3:=zq q3;go_wp2;go_ret2
  obtain⟨rfl,rfl⟩:=Prod.mk.inj (show(rL,rE)=([],1)from HOE.out.symm.trans (qfC HLE.out (.inr (.inr (by rw[<-HSN.out];exact Q3.out)))));exact⟨none,0,rfl,SlO.nil _ _ _,Nat.le_refl _,HB.out⟩
 have HFT:=zq (show 0<=fr/\fr<=tz/\tz<=N by omega);have HLO:=zq (qdV HLE.out);have HN4:=zq (show n<=40 from by have h1_:=HLO.out.2.1;have h2_:=HL.out;omega);have HSB:=zq (show N<=40000000 from by have h1_:=(qck HED.out (path:=path) HLO.out.2.2.1).2;have h2_:=HSN.out;have h3_:=HL.out;have h4_:=HN4.out;rw[h2_];omega);have HOI:=zq (HOE.out.symm.trans (over_ok (t:=t) (path:=path) (fr:=fr) (tz:=tz) HLE.out HED.out HFT.out.1 HFT.out.2.1 (by rw[<-HSN.out];exact HFT.out.2.2)));clear HOE;obtain⟨wb,hwb⟩: ∃wb,wb=wr:=⟨_,rfl⟩
 subst hwb;go_upto_region 13 with fail;clear x1 q1 q2 q3;go_wp2;go_loopg [13,14,15] n (fun kk v13 v14 v15 wl=> ∃(i k:Nat) (A2:Option Addr) (c2:Nat) (q:List Sn3),i<=n/\n-i<=kk/\v15= .int .i64 i/\v14= .int .i64 (sumT t (path.take i))/\v13= .slice A2 k c2/\Hid (OwR snC 3 119 wb.heap.size wl A2 k c2 q)/\Hid (k<=i)/\Hid (ovGo t fr tz path 0=q++ovGo t fr tz (path.drop i) (sumT t (path.take i)))/\Hid (Below wb.heap.size wb wl))
 case atStart=>exact⟨0,0,none,0,[],by omega,by omega,rfl,rfl,rfl,zq (OwR.nil _ _ _ _ _),zq (Nat.le_refl _),zq rfl,zq (Below.refl _ _)⟩
 clear c0;obtain⟨i,k,A2,c2,q,hi,hik,rfl,rfl,rfl,HO,HK,HQ,HBL⟩:=hrel;have HBR:=zq (HB.out.trans (HBL.out.mono HB.out.size));by_cases hlt:i<n;rotate_left
 ·obtain rfl:i=n:=by omega
  have x1: ¬(i:Int)<i:=by omega
  have HQF:Hid (ovGo t fr tz path 0=q):=zq (by rw[HQ.out,List.drop_of_length_le (Nat.le_of_eq HL.out),ovGo,List.append_nil]);clear hik hlt hi;go_upto_region 28 with fail;go_wp2_with fail;refine(rsnorm_any q A2 k c2 wr HO.out.sl (by have h1_:=HK.out;have h2_:=HN4.out;omega)).mono ?_;rintro e w3 ⟨X,x,rfl,hs,hx,hb⟩;have H1:=zq hs;have H2:=zq hx;have H3:=tB HBR hb;clear hs hx hb;go_wp2;go_ret2
  obtain⟨rfl,rfl⟩:=Prod.mk.inj (show(rL,rE)=(normL q,0)from by rw[HOI.out,HQF.out]);exact⟨X,x,rfl,H1.out,H2.out,H3.out⟩
 obtain⟨x,hx⟩:=glZ path (i) (by rw[HL.out];omega);have HX:=zq hx;obtain⟨bk,off,rfl,e0,e1⟩:=(HP.out wr HBR.out).step hx;have hxe:=HLO.out.2.2.1 x (List.mem_of_getElem? hx);have HXE:=zq hxe;have hxe2:=hxe;unfold edgeB at hxe2;simp only[Bool.and_eq_true,decide_eq_true_eq]at hxe2;obtain⟨ke,hke⟩: ∃k:Nat,x.edge=k:=⟨x.edge.toNat,by omega⟩
 have hkl:ke<t.edges.length:=by omega
 obtain⟨be,oe,hae,ce⟩:=(HT.out wr HBR.out).e.edge hkl;have HLA:=zq (show lenAt t x=t.edges.getD ke 0 from by unfold lenAt;rw[hke];rfl);obtain⟨m,hm⟩: ∃q,t.edges.getD ke 0=q:=⟨_,rfl⟩
 rw[hm]at HLA ce;have HQM:=zq (show 1<=m/\m<=1000000 from by rw[<-HLA.out];exact qaT HED.out hxe);have c0:wr.cell? ⟨w.heap.size,0,none⟩=some (.slice (some ⟨be,oe,none⟩) t.edges.length a.ce):=by have h_:=(HG0.out.under HBL.out HG0.out.lt).cell 0;rw[<-hae];exact h_
 rw[HNE.out]at c0 hkl;rw[hke]at e0;have hsa:=qck HED.out (path:=path.take i) (fun s hs=>HLO.out.2.2.1 s (List.mem_of_mem_take hs));rw[List.length_take]at hsa;obtain⟨at_,hat⟩: ∃s,sumT t (path.take i)=s:=⟨_,rfl⟩
 have HAT:=zq hat
 rw[hat]at hsa HQ;simp only[hat];have HAB:=zq (show 0<=at_/\at_<=40000000 from by have h1_:=HN4.out;omega);have HNX:Hid (ovGo t fr tz path 0=(q++partN x m (cutA fr at_) (cutB tz at_ m))++ovGo t fr tz (path.drop (i+1)) (at_+m)):=zq (by rw[HQ.out,ov_at HX.out,HLA.out,List.append_assoc]);have HAN:=zq (show sumT t (path.take (i+1))=at_+m from by rw[List.take_add_one,HX.out,qew,HAT.out];show at_+(lenAt t x+0)=at_+m;rw[HLA.out,Int.add_zero]);obtain⟨xe,xr⟩:=x;dsimp only at*;have hn40:n<=40:=HN4.out;have y0:(0:Int)<=i:=by omega
 have y1:(i:Int)<n:=by omega
 have z0:(0:Int)<=ke:=by omega
 have z1:(ke:Int)<ne:=by omega
 have hwa:IntKind.i64.wrap (fr-at_)=fr-at_:=by have h1_:=HFT.out;have h2_:=HAB.out;have h3_:=HSB.out;rw[IntKind.wrap_i64];omega
 have hwb:IntKind.i64.wrap (tz-at_)=tz-at_:=by have h1_:=HFT.out;have h2_:=HAB.out;have h3_:=HSB.out;rw[IntKind.wrap_i64];omega
 have hwn:IntKind.i64.wrap (at_+m)=at_+m:=by have h2_:=HAB.out;have h3_:=HQM.out;rw[IntKind.wrap_i64];omega
 have hwe:=zq hke;clear hx hxe hxe2 hke hkl hae hm hat hsa;obtain⟨k1,hk1⟩: ∃k1,k1=gk:=⟨_,rfl⟩
 subst hk1;obtain⟨wv,hwv⟩: ∃wv,wv=wr:=⟨_,rfl⟩
 subst hwv;have HED1:=zq (show wv.cell? ⟨bk,off+i*2,none⟩=some (.int .i64 (ke:Int))/\wv.cell? ⟨bk,off+i*2+1,none⟩=some (.bool xr)from⟨e0,e1⟩);go_upto_region 16 with fail;go_quiet (fail);clear c0 ce z0 z1 e0 e1;generalize hwq:World.drewN wv _=wq;have HO6:=zq (show OwR snC 3 119 wb.heap.size wq A2 k c2 q from by rw[<-hwq];exact HO.out.draws _);have HB6:=zq (show Below wb.heap.size wb wq from by rw[<-hwq];exact qac HBL.out _);have HEQ:=zq (show wq.cell? ⟨bk,off+i*2,none⟩=some (.int .i64 (ke:Int))/\wq.cell? ⟨bk,off+i*2+1,none⟩=some (.bool xr)from by rw[<-hwq];exact HED1.out);clear hwq HED1 HO HBL HBR;by_cases q4:fr-at_<0
 ·by_cases q5:m<tz-at_
  ·skip
   have HA_:=zq (show cutA fr at_=0 from by unfold cutA;rw[if_pos q4]);have HB_:=zq (show cutB tz at_ m=m from by unfold cutB;rw[if_pos q5]);rw[HA_.out,HB_.out]at HNX;by_cases q6:0<m;rotate_left
   ·have HNY:Hid (ovGo t fr tz path 0=q++ovGo t fr tz (path.drop (i+1)) (at_+m)):=zq (by rw[HNX.out];unfold partN;rw[if_neg q6,List.append_nil])
    go_wp2;go_roundg (k1-1)
    case measure=>omega
    case rel=>
     exact⟨i+1,k,A2,c2,q,by omega,by omega,by go_num,by rw[HAN.out],rfl,HO6,zq (by have:=HK.out;omega),zq (by rw[HAN.out];exact HNY.out),HB6⟩
   cases xr with
   |true=>
    have HNY:Hid (ovGo t fr tz path 0=(q++[⟨(ke:Int),0,m⟩])++ovGo t fr tz (path.drop (i+1)) (at_+m)):=zq (by rw[HNX.out];unfold partN;rw[if_pos q6,<-hwe.out];simp only[Int.sub_self,Int.sub_zero];rfl);have d0:=HEQ.out.1;have d1:=HEQ.out.2;clear HNX;have hmb:1<=m/\m<=1000000:=HQM.out;have hwm0:IntKind.i64.wrap m=m:=by rw[IntKind.wrap_i64];omega
    skip;go_upto_region 24 with fail;clear d1;obtain⟨hN,hO,hC,h1,hBD⟩:=pushR (f:=snC) (k:=3) (e:=119) 24 ⟨(ke:Int),0,m⟩ #[.int .i64 (ke:Int),.int .i64 0,.int .i64 m] rfl rfl (qbj _) HO6.out HB6.out.size (by have h1_:=HK.out;have h2_:=HN4.out;omega) (by omega);have hbw:Below wb.heap.size wb (wq.alloc (.cells #[.int .i64 (ke:Int),.int .i64 0,.int .i64 m] 119)):=HB6.out.alloc HB6.out.size _;have HBW:=zq hbw;have HLN:=zq HO6.out.2;clear hbw;go_wp2_with (with_reducible refine qao (o:=⟨some 112,_,_,_,_,_⟩) rfl (.tmp 98) (.tmp 111) 52 rfl wb.heap.size 119 (.agg #[.int .i64 0,.int .i64 0,.int .i64 0]) 3 24 Tryz.underlying52 qaR ?hz31 (by decide) A2 (k) c2 ((q).flatMap snC) ?hs31 hO ⟨wq.heap.size,0,none⟩ 1 1 (snC ⟨(ke:Int),0,m⟩) ?hx31 hN hC h1 hBD ?next31)
    all_goals try rfl
    intro A31 c31 v31 ho hg;have HO7:=zq (OwR.snoc HLN.out ho.out);have HB7:=zq (qai HBW.out HBW.out.size hO.out (Nat.le_refl _) rfl hg.out);clear ho hg hN hO hC h1 hBD HBW HLN d0;go_wp2;go_roundg (k1-1)
    case measure=>omega
    case rel=>
     exact⟨i+1,_,A31,c31,_,by omega,by omega,by go_num,by rw[HAN.out],rfl,HO7,zq (by have:=HK.out;omega),zq (by rw[HAN.out];exact HNY.out),HB7⟩
   |false=>
    have HNY:Hid (ovGo t fr tz path 0=(q++[⟨(ke:Int),0,m⟩])++ovGo t fr tz (path.drop (i+1)) (at_+m)):=zq (by rw[HNX.out];unfold partN;rw[if_pos q6,<-hwe.out];rfl);have d0:=HEQ.out.1;have d1:=HEQ.out.2;clear HNX;skip;go_upto_region 26 with fail;clear d1;obtain⟨hN,hO,hC,h1,hBD⟩:=pushR (f:=snC) (k:=3) (e:=119) 24 ⟨(ke:Int),0,m⟩ #[.int .i64 (ke:Int),.int .i64 0,.int .i64 m] rfl rfl (qbj _) HO6.out HB6.out.size (by have h1_:=HK.out;have h2_:=HN4.out;omega) (by omega);have hbw:Below wb.heap.size wb (wq.alloc (.cells #[.int .i64 (ke:Int),.int .i64 0,.int .i64 m] 119)):=HB6.out.alloc HB6.out.size _;have HBW:=zq hbw;have HLN:=zq HO6.out.2;clear hbw;go_wp2_with (with_reducible refine qao (o:=⟨some 126,_,_,_,_,_⟩) rfl (.tmp 116) (.tmp 125) 52 rfl wb.heap.size 119 (.agg #[.int .i64 0,.int .i64 0,.int .i64 0]) 3 24 Tryz.underlying52 qaR ?hz32 (by decide) A2 (k) c2 ((q).flatMap snC) ?hs32 hO ⟨wq.heap.size,0,none⟩ 1 1 (snC ⟨(ke:Int),0,m⟩) ?hx32 hN hC h1 hBD ?next32)
    all_goals try rfl
    intro A32 c32 v32 ho hg;have HO7:=zq (OwR.snoc HLN.out ho.out);have HB7:=zq (qai HBW.out HBW.out.size hO.out (Nat.le_refl _) rfl hg.out);clear ho hg hN hO hC h1 hBD HBW HLN d0;go_wp2;go_roundg (k1-1)
    case measure=>omega
    case rel=>
     exact⟨i+1,_,A32,c32,_,by omega,by omega,by go_num,by rw[HAN.out],rfl,HO7,zq (by have:=HK.out;omega),zq (by rw[HAN.out];exact HNY.out),HB7⟩
  ·skip
   have HA_:=zq (show cutA fr at_=0 from by unfold cutA;rw[if_pos q4]);have HB_:=zq (show cutB tz at_ m=tz-at_ from by unfold cutB;rw[if_neg q5]);rw[HA_.out,HB_.out]at HNX;by_cases q6:0<tz-at_;rotate_left
   ·have HNY:Hid (ovGo t fr tz path 0=q++ovGo t fr tz (path.drop (i+1)) (at_+m)):=zq (by rw[HNX.out];unfold partN;rw[if_neg q6,List.append_nil])
    go_wp2;go_roundg (k1-1)
    case measure=>omega
    case rel=>
     exact⟨i+1,k,A2,c2,q,by omega,by omega,by go_num,by rw[HAN.out],rfl,HO6,zq (by have:=HK.out;omega),zq (by rw[HAN.out];exact HNY.out),HB6⟩
   cases xr with
   |true=>
    have HNY:Hid (ovGo t fr tz path 0=(q++[⟨(ke:Int),m-(tz-at_),m⟩])++ovGo t fr tz (path.drop (i+1)) (at_+m)):=zq (by rw[HNX.out];unfold partN;rw[if_pos q6,<-hwe.out];simp only[Int.sub_zero];rfl);have d0:=HEQ.out.1;have d1:=HEQ.out.2;clear HNX;have hwmb:IntKind.i64.wrap (m-(tz-at_))=m-(tz-at_):=by have h1_:=HQM.out;have h2_:=HAB.out;have h3_:=HFT.out;have h4_:=HSB.out;rw[IntKind.wrap_i64];omega
    have hmb:1<=m/\m<=1000000:=HQM.out;have hwm0:IntKind.i64.wrap m=m:=by rw[IntKind.wrap_i64];omega
    skip;go_upto_region 24 with fail;clear d1;obtain⟨hN,hO,hC,h1,hBD⟩:=pushR (f:=snC) (k:=3) (e:=119) 24 ⟨(ke:Int),m-(tz-at_),m⟩ #[.int .i64 (ke:Int),.int .i64 (m-(tz-at_)),.int .i64 m] rfl rfl (qbj _) HO6.out HB6.out.size (by have h1_:=HK.out;have h2_:=HN4.out;omega) (by omega);have hbw:Below wb.heap.size wb (wq.alloc (.cells #[.int .i64 (ke:Int),.int .i64 (m-(tz-at_)),.int .i64 m] 119)):=HB6.out.alloc HB6.out.size _;have HBW:=zq hbw;have HLN:=zq HO6.out.2;clear hbw;go_wp2_with (with_reducible refine qao (o:=⟨some 112,_,_,_,_,_⟩) rfl (.tmp 98) (.tmp 111) 52 rfl wb.heap.size 119 (.agg #[.int .i64 0,.int .i64 0,.int .i64 0]) 3 24 Tryz.underlying52 qaR ?hz33 (by decide) A2 (k) c2 ((q).flatMap snC) ?hs33 hO ⟨wq.heap.size,0,none⟩ 1 1 (snC ⟨(ke:Int),m-(tz-at_),m⟩) ?hx33 hN hC h1 hBD ?next33)
    all_goals try rfl
    intro A33 c33 v33 ho hg;have HO7:=zq (OwR.snoc HLN.out ho.out);have HB7:=zq (qai HBW.out HBW.out.size hO.out (Nat.le_refl _) rfl hg.out);clear ho hg hN hO hC h1 hBD HBW HLN d0;go_wp2;go_roundg (k1-1)
    case measure=>omega
    case rel=>
     exact⟨i+1,_,A33,c33,_,by omega,by omega,by go_num,by rw[HAN.out],rfl,HO7,zq (by have:=HK.out;omega),zq (by rw[HAN.out];exact HNY.out),HB7⟩
   |false=>
    have HNY:Hid (ovGo t fr tz path 0=(q++[⟨(ke:Int),0,tz-at_⟩])++ovGo t fr tz (path.drop (i+1)) (at_+m)):=zq (by rw[HNX.out];unfold partN;rw[if_pos q6,<-hwe.out];rfl);have d0:=HEQ.out.1;have d1:=HEQ.out.2;clear HNX;skip;go_upto_region 26 with fail;clear d1;obtain⟨hN,hO,hC,h1,hBD⟩:=pushR (f:=snC) (k:=3) (e:=119) 24 ⟨(ke:Int),0,tz-at_⟩ #[.int .i64 (ke:Int),.int .i64 0,.int .i64 (tz-at_)] rfl rfl (qbj _) HO6.out HB6.out.size (by have h1_:=HK.out;have h2_:=HN4.out;omega) (by omega);have hbw:Below wb.heap.size wb (wq.alloc (.cells #[.int .i64 (ke:Int),.int .i64 0,.int .i64 (tz-at_)] 119)):=HB6.out.alloc HB6.out.size _;have HBW:=zq hbw;have HLN:=zq HO6.out.2;clear hbw;go_wp2_with (with_reducible refine qao (o:=⟨some 126,_,_,_,_,_⟩) rfl (.tmp 116) (.tmp 125) 52 rfl wb.heap.size 119 (.agg #[.int .i64 0,.int .i64 0,.int .i64 0]) 3 24 Tryz.underlying52 qaR ?hz34 (by decide) A2 (k) c2 ((q).flatMap snC) ?hs34 hO ⟨wq.heap.size,0,none⟩ 1 1 (snC ⟨(ke:Int),0,tz-at_⟩) ?hx34 hN hC h1 hBD ?next34)
    all_goals try rfl
    intro A34 c34 v34 ho hg;have HO7:=zq (OwR.snoc HLN.out ho.out);have HB7:=zq (qai HBW.out HBW.out.size hO.out (Nat.le_refl _) rfl hg.out);clear ho hg hN hO hC h1 hBD HBW HLN d0;go_wp2;go_roundg (k1-1)
    case measure=>omega
    case rel=>
     exact⟨i+1,_,A34,c34,_,by omega,by omega,by go_num,by rw[HAN.out],rfl,HO7,zq (by have:=HK.out;omega),zq (by rw[HAN.out];exact HNY.out),HB7⟩
 ·by_cases q5:m<tz-at_
  ·skip
   have HA_:=zq (show cutA fr at_=fr-at_ from by unfold cutA;rw[if_neg q4]);have HB_:=zq (show cutB tz at_ m=m from by unfold cutB;rw[if_pos q5]);rw[HA_.out,HB_.out]at HNX;by_cases q6:fr-at_<m;rotate_left
   ·have HNY:Hid (ovGo t fr tz path 0=q++ovGo t fr tz (path.drop (i+1)) (at_+m)):=zq (by rw[HNX.out];unfold partN;rw[if_neg q6,List.append_nil])
    go_wp2;go_roundg (k1-1)
    case measure=>omega
    case rel=>
     exact⟨i+1,k,A2,c2,q,by omega,by omega,by go_num,by rw[HAN.out],rfl,HO6,zq (by have:=HK.out;omega),zq (by rw[HAN.out];exact HNY.out),HB6⟩
   cases xr with
   |true=>
    have HNY:Hid (ovGo t fr tz path 0=(q++[⟨(ke:Int),0,m-(fr-at_)⟩])++ovGo t fr tz (path.drop (i+1)) (at_+m)):=zq (by rw[HNX.out];unfold partN;rw[if_pos q6,<-hwe.out];simp only[Int.sub_self];rfl);have d0:=HEQ.out.1;have d1:=HEQ.out.2;clear HNX;have hwma:IntKind.i64.wrap (m-(fr-at_))=m-(fr-at_):=by have h1_:=HQM.out;have h2_:=HAB.out;have h3_:=HFT.out;have h4_:=HSB.out;rw[IntKind.wrap_i64];omega
    skip;go_upto_region 24 with fail;clear d1;obtain⟨hN,hO,hC,h1,hBD⟩:=pushR (f:=snC) (k:=3) (e:=119) 24 ⟨(ke:Int),0,m-(fr-at_)⟩ #[.int .i64 (ke:Int),.int .i64 0,.int .i64 (m-(fr-at_))] rfl rfl (qbj _) HO6.out HB6.out.size (by have h1_:=HK.out;have h2_:=HN4.out;omega) (by omega);have hbw:Below wb.heap.size wb (wq.alloc (.cells #[.int .i64 (ke:Int),.int .i64 0,.int .i64 (m-(fr-at_))] 119)):=HB6.out.alloc HB6.out.size _;have HBW:=zq hbw;have HLN:=zq HO6.out.2;clear hbw;go_wp2_with (with_reducible refine qao (o:=⟨some 112,_,_,_,_,_⟩) rfl (.tmp 98) (.tmp 111) 52 rfl wb.heap.size 119 (.agg #[.int .i64 0,.int .i64 0,.int .i64 0]) 3 24 Tryz.underlying52 qaR ?hz35 (by decide) A2 (k) c2 ((q).flatMap snC) ?hs35 hO ⟨wq.heap.size,0,none⟩ 1 1 (snC ⟨(ke:Int),0,m-(fr-at_)⟩) ?hx35 hN hC h1 hBD ?next35)
    all_goals try rfl
    intro A35 c35 v35 ho hg;have HO7:=zq (OwR.snoc HLN.out ho.out);have HB7:=zq (qai HBW.out HBW.out.size hO.out (Nat.le_refl _) rfl hg.out);clear ho hg hN hO hC h1 hBD HBW HLN d0;go_wp2;go_roundg (k1-1)
    case measure=>omega
    case rel=>
     exact⟨i+1,_,A35,c35,_,by omega,by omega,by go_num,by rw[HAN.out],rfl,HO7,zq (by have:=HK.out;omega),zq (by rw[HAN.out];exact HNY.out),HB7⟩
   |false=>
    have HNY:Hid (ovGo t fr tz path 0=(q++[⟨(ke:Int),fr-at_,m⟩])++ovGo t fr tz (path.drop (i+1)) (at_+m)):=zq (by rw[HNX.out];unfold partN;rw[if_pos q6,<-hwe.out];rfl);have d0:=HEQ.out.1;have d1:=HEQ.out.2;clear HNX;skip;go_upto_region 26 with fail;clear d1;obtain⟨hN,hO,hC,h1,hBD⟩:=pushR (f:=snC) (k:=3) (e:=119) 24 ⟨(ke:Int),fr-at_,m⟩ #[.int .i64 (ke:Int),.int .i64 (fr-at_),.int .i64 m] rfl rfl (qbj _) HO6.out HB6.out.size (by have h1_:=HK.out;have h2_:=HN4.out;omega) (by omega);have hbw:Below wb.heap.size wb (wq.alloc (.cells #[.int .i64 (ke:Int),.int .i64 (fr-at_),.int .i64 m] 119)):=HB6.out.alloc HB6.out.size _;have HBW:=zq hbw;have HLN:=zq HO6.out.2;clear hbw;go_wp2_with (with_reducible refine qao (o:=⟨some 126,_,_,_,_,_⟩) rfl (.tmp 116) (.tmp 125) 52 rfl wb.heap.size 119 (.agg #[.int .i64 0,.int .i64 0,.int .i64 0]) 3 24 Tryz.underlying52 qaR ?hz36 (by decide) A2 (k) c2 ((q).flatMap snC) ?hs36 hO ⟨wq.heap.size,0,none⟩ 1 1 (snC ⟨(ke:Int),fr-at_,m⟩) ?hx36 hN hC h1 hBD ?next36)
    all_goals try rfl
    intro A36 c36 v36 ho hg;have HO7:=zq (OwR.snoc HLN.out ho.out);have HB7:=zq (qai HBW.out HBW.out.size hO.out (Nat.le_refl _) rfl hg.out);clear ho hg hN hO hC h1 hBD HBW HLN d0;go_wp2;go_roundg (k1-1)
    case measure=>omega
    case rel=>
     exact⟨i+1,_,A36,c36,_,by omega,by omega,by go_num,by rw[HAN.out],rfl,HO7,zq (by have:=HK.out;omega),zq (by rw[HAN.out];exact HNY.out),HB7⟩
  ·skip
   have HA_:=zq (show cutA fr at_=fr-at_ from by unfold cutA;rw[if_neg q4]);have HB_:=zq (show cutB tz at_ m=tz-at_ from by unfold cutB;rw[if_neg q5]);rw[HA_.out,HB_.out]at HNX;by_cases q6:fr-at_<tz-at_;rotate_left
   ·have HNY:Hid (ovGo t fr tz path 0=q++ovGo t fr tz (path.drop (i+1)) (at_+m)):=zq (by rw[HNX.out];unfold partN;rw[if_neg q6,List.append_nil])
    go_wp2;go_roundg (k1-1)
    case measure=>omega
    case rel=>
     exact⟨i+1,k,A2,c2,q,by omega,by omega,by go_num,by rw[HAN.out],rfl,HO6,zq (by have:=HK.out;omega),zq (by rw[HAN.out];exact HNY.out),HB6⟩
   cases xr with
   |true=>
    have HNY:Hid (ovGo t fr tz path 0=(q++[⟨(ke:Int),m-(tz-at_),m-(fr-at_)⟩])++ovGo t fr tz (path.drop (i+1)) (at_+m)):=zq (by rw[HNX.out];unfold partN;rw[if_pos q6,<-hwe.out];rfl);have d0:=HEQ.out.1;have d1:=HEQ.out.2;clear HNX;have hwma:IntKind.i64.wrap (m-(fr-at_))=m-(fr-at_):=by have h1_:=HQM.out;have h2_:=HAB.out;have h3_:=HFT.out;have h4_:=HSB.out;rw[IntKind.wrap_i64];omega
    have hwmb:IntKind.i64.wrap (m-(tz-at_))=m-(tz-at_):=by have h1_:=HQM.out;have h2_:=HAB.out;have h3_:=HFT.out;have h4_:=HSB.out;rw[IntKind.wrap_i64];omega
    skip;go_upto_region 24 with fail;clear d1;obtain⟨hN,hO,hC,h1,hBD⟩:=pushR (f:=snC) (k:=3) (e:=119) 24 ⟨(ke:Int),m-(tz-at_),m-(fr-at_)⟩ #[.int .i64 (ke:Int),.int .i64 (m-(tz-at_)),.int .i64 (m-(fr-at_))] rfl rfl (qbj _) HO6.out HB6.out.size (by have h1_:=HK.out;have h2_:=HN4.out;omega) (by omega);have hbw:Below wb.heap.size wb (wq.alloc (.cells #[.int .i64 (ke:Int),.int .i64 (m-(tz-at_)),.int .i64 (m-(fr-at_))] 119)):=HB6.out.alloc HB6.out.size _;have HBW:=zq hbw;have HLN:=zq HO6.out.2;clear hbw;go_wp2_with (with_reducible refine qao (o:=⟨some 112,_,_,_,_,_⟩) rfl (.tmp 98) (.tmp 111) 52 rfl wb.heap.size 119 (.agg #[.int .i64 0,.int .i64 0,.int .i64 0]) 3 24 Tryz.underlying52 qaR ?hz37 (by decide) A2 (k) c2 ((q).flatMap snC) ?hs37 hO ⟨wq.heap.size,0,none⟩ 1 1 (snC ⟨(ke:Int),m-(tz-at_),m-(fr-at_)⟩) ?hx37 hN hC h1 hBD ?next37)
    all_goals try rfl
    intro A37 c37 v37 ho hg;have HO7:=zq (OwR.snoc HLN.out ho.out);have HB7:=zq (qai HBW.out HBW.out.size hO.out (Nat.le_refl _) rfl hg.out);clear ho hg hN hO hC h1 hBD HBW HLN d0;go_wp2;go_roundg (k1-1)
    case measure=>omega
    case rel=>
     exact⟨i+1,_,A37,c37,_,by omega,by omega,by go_num,by rw[HAN.out],rfl,HO7,zq (by have:=HK.out;omega),zq (by rw[HAN.out];exact HNY.out),HB7⟩
   |false=>
    have HNY:Hid (ovGo t fr tz path 0=(q++[⟨(ke:Int),fr-at_,tz-at_⟩])++ovGo t fr tz (path.drop (i+1)) (at_+m)):=zq (by rw[HNX.out];unfold partN;rw[if_pos q6,<-hwe.out];rfl);have d0:=HEQ.out.1;have d1:=HEQ.out.2;clear HNX;skip;go_upto_region 26 with fail;clear d1;obtain⟨hN,hO,hC,h1,hBD⟩:=pushR (f:=snC) (k:=3) (e:=119) 24 ⟨(ke:Int),fr-at_,tz-at_⟩ #[.int .i64 (ke:Int),.int .i64 (fr-at_),.int .i64 (tz-at_)] rfl rfl (qbj _) HO6.out HB6.out.size (by have h1_:=HK.out;have h2_:=HN4.out;omega) (by omega);have hbw:Below wb.heap.size wb (wq.alloc (.cells #[.int .i64 (ke:Int),.int .i64 (fr-at_),.int .i64 (tz-at_)] 119)):=HB6.out.alloc HB6.out.size _;have HBW:=zq hbw;have HLN:=zq HO6.out.2;clear hbw;go_wp2_with (with_reducible refine qao (o:=⟨some 126,_,_,_,_,_⟩) rfl (.tmp 116) (.tmp 125) 52 rfl wb.heap.size 119 (.agg #[.int .i64 0,.int .i64 0,.int .i64 0]) 3 24 Tryz.underlying52 qaR ?hz38 (by decide) A2 (k) c2 ((q).flatMap snC) ?hs38 hO ⟨wq.heap.size,0,none⟩ 1 1 (snC ⟨(ke:Int),fr-at_,tz-at_⟩) ?hx38 hN hC h1 hBD ?next38)
    all_goals try rfl
    intro A38 c38 v38 ho hg;have HO7:=zq (OwR.snoc HLN.out ho.out);have HB7:=zq (qai HBW.out HBW.out.size hO.out (Nat.le_refl _) rfl hg.out);clear ho hg hN hO hC h1 hBD HBW HLN d0;go_wp2;go_roundg (k1-1)
    case measure=>omega
    case rel=>
     exact⟨i+1,_,A38,c38,_,by omega,by omega,by go_num,by rw[HAN.out],rfl,HO7,zq (by have:=HK.out;omega),zq (by rw[HAN.out];exact HNY.out),HB7⟩
end
section
open Go.RowKit
open Go.Great
def eqC17 (a b:Sc3):Bool:=(a.to_==b.to_) &&(a.timer==b.timer)
theorem qcx (a b:Sc3):eqC17 a b=true↔a=b:=by
 obtain⟨x,y⟩:=a;obtain⟨u,v⟩:=b;unfold eqC17;simp
theorem eq_sc17 (a b:Sc3)(W:World):(Op.equalIn 10000 66 (.agg (scA17 a)) (.agg (scA17 b))).run Tryz.prog W= .ok (eqC17 a b) W:=by
 rw[show(10000:Nat)=9999+1 from rfl,run_equalIn_struct W 9999 66 _ _ (by kernel_rfl) (by kernel_rfl)];simp only[Program.fieldsOf,Tryz.underlying66];unfold eqC17 scA17;by_cases h0:a.to_=b.to_;rotate_left
 ·refine(qa5 W 9999 (scA17 a) (scA17 b) _ _ (.int .i64 a.to_) (.int .i64 b.to_) (by decide) (qag W 3 (scA17 a) 0 (.int .i64 a.to_) (by kernel_rfl) rfl) (qag W 3 (scA17 b) 0 (.int .i64 b.to_) (by kernel_rfl) rfl) (by rw[show(9999:Nat)=9998+1 from rfl,run_equalIn_int W 9998 3 .i64 .i64 _ _ Tryz.underlying3];simp[h0])).trans ?_
  have e:(a.to_==b.to_)=false:=by simp[h0]
  simp[e]
 refine(qaL W 9999 (scA17 a) (scA17 b) _ _ (.int .i64 a.to_) (.int .i64 b.to_) (by decide) (qag W 3 (scA17 a) 0 (.int .i64 a.to_) (by kernel_rfl) rfl) (qag W 3 (scA17 b) 0 (.int .i64 b.to_) (by kernel_rfl) rfl) (by rw[show(9999:Nat)=9998+1 from rfl,run_equalIn_int W 9998 3 .i64 .i64 _ _ Tryz.underlying3];simp[h0])).trans ?_;by_cases h1:a.timer=b.timer;rotate_left
 ·refine(qa5 W 9999 (scA17 a) (scA17 b) _ _ (.int .i64 a.timer) (.int .i64 b.timer) (by decide) (qag W 3 (scA17 a) 1 (.int .i64 a.timer) (by kernel_rfl) rfl) (qag W 3 (scA17 b) 1 (.int .i64 b.timer) (by kernel_rfl) rfl) (by rw[show(9999:Nat)=9998+1 from rfl,run_equalIn_int W 9998 3 .i64 .i64 _ _ Tryz.underlying3];simp[h1])).trans ?_
  have e:(a.timer==b.timer)=false:=by simp[h1]
  simp[e]
 refine(qaL W 9999 (scA17 a) (scA17 b) _ _ (.int .i64 a.timer) (.int .i64 b.timer) (by decide) (qag W 3 (scA17 a) 1 (.int .i64 a.timer) (by kernel_rfl) rfl) (qag W 3 (scA17 b) 1 (.int .i64 b.timer) (by kernel_rfl) rfl) (by rw[show(9999:Nat)=9998+1 from rfl,run_equalIn_int W 9998 3 .i64 .i64 _ _ Tryz.underlying3];simp[h1])).trans ?_;refine(qbN W 9999 _ _).trans ?_;simp[h0,h1]
theorem eql_sc17 (a b:Sc3)(W:World):(binOp .eql 66 (.agg (scA17 a)) (.agg (scA17 b))).run Tryz.prog W= .ok (.bool (eqC17 a b)) W:=by
 rw[run_eql_struct,eq_sc17];rfl
theorem neq_sc17 (a b:Sc3)(W:World):(binOp .neq 66 (.agg (scA17 a)) (.agg (scA17 b))).run Tryz.prog W= .ok (.bool (!eqC17 a b)) W:=by
 rw[run_neq_struct,eq_sc17];rfl
theorem SlO.sect {w:World}{A:Option Addr}{n c:Nat}{l:List Sc3}(h:SlO scC17 2 w A n c l){j:Nat}{x:Sc3}(hx:l[j]?=some x):
  ∃b off,A=some ⟨b,off,none⟩/\w.cell? ⟨b,off+j*2,none⟩=some (.int .i64 x.to_)/\w.cell? ⟨b,off+j*2+1,none⟩=some (.int .i64 x.timer):=by
 obtain⟨b,off,e,hc⟩:=h.at_ (fun _=>rfl) (by decide) hx;exact⟨b,off,e,hc 0 _ rfl,hc 1 _ rfl⟩
theorem end17 {m:Ma3}{i:Nat}{s:Sc3}(hi:i+1=m.sects.length)(hs:m.sects[i]?=some s):endM m=s.to_:=by
 unfold endM;refine last_get (q:=s) ?_;rw[List.getLast?_eq_getElem?,<-hi];exact hs
end
section
open Go.RowKit
open Go.Great
def lcA (s:Lc3):Array Value:=#[.int .i64 s.route,.int .i64 s.train,.int .i64 s.no]
def lcC (s:Lc3):List Value:=[.int .i64 s.route,.int .i64 s.train,.int .i64 s.no]
theorem qdF:(Tryz.prog.info? 73).map (fun i=>(i.zero,i.size,i.bytes))=some (some (.agg #[.int .i64 0,.int .i64 0,.int .i64 0]),3,24):=by kernel_rfl
theorem one_lc16 (s:Lc3): ∀u∈lcC s,u.oneCell'=true:=by
 intro u hu;simp only[lcC,List.mem_cons,List.not_mem_nil,or_false]at hu
 rcases hu with rfl|rfl|rfl<;>rfl
theorem SlO.lock {w:World}{A:Option Addr}{n c:Nat}{l:List Lc3}(h:SlO lcC 3 w A n c l){j:Nat}{x:Lc3}(hx:l[j]?=some x):
  ∃b off,A=some ⟨b,off,none⟩/\w.cell? ⟨b,off+j*3,none⟩=some (.int .i64 x.route)/\w.cell? ⟨b,off+j*3+1,none⟩=some (.int .i64 x.train)/\w.cell? ⟨b,off+j*3+2,none⟩=some (.int .i64 x.no):=by
 obtain⟨b,off,e,hc⟩:=h.at_ (fun _=>rfl) (by decide) hx;exact⟨b,off,e,hc 0 _ rfl,hc 1 _ rfl,hc 2 _ rfl⟩
theorem SlO.locks {w:World}{A:Option Addr}{n c:Nat}{l:List Lc3}(h:SlO lcC 3 w A n c l){j:Nat}{x:Lc3}(hx:l[j]?=some x):
  ∃b off,A=some ⟨b,off,none⟩/\ ∀W,Below w.heap.size w W->W.cell? ⟨b,off+j*3,none⟩=some (.int .i64 x.route)/\W.cell? ⟨b,off+j*3+1,none⟩=some (.int .i64 x.train)/\W.cell? ⟨b,off+j*3+2,none⟩=some (.int .i64 x.no):=by
 obtain⟨b,off,rfl,_⟩:=h.lock hx;refine⟨b,off,rfl,fun W hW=>?_⟩;obtain⟨b',o',e,h1⟩:=(h.under hW).lock hx;injection e with e
 injection e with e1 e2 _
 subst e1 e2;exact h1
def LkT (w:World)(A:Option Addr)(n c:Nat)(l:List Lc3):Prop:=SlO lcC 3 w A n c l/\n<=c/\ ∀ad,A=some ad-> ∃cs,Has w ad.block 73 cs
theorem LkT.under {w w':World}{A:Option Addr}{n c:Nat}{l:List Lc3}(h:LkT w A n c l)(hb:Below w.heap.size w w'):LkT w' A n c l:=⟨h.1.under hb,h.2.1,fun ad e=>by
 obtain⟨cs,hc⟩:=h.2.2 ad e;exact⟨cs,hc.u hb⟩⟩
theorem LkT.row {w:World}{A:Option Addr}{n c g:Nat}{l:List Lc3}{t:TypeId}{o:Array Value}(h:LkT w A n c l)(hg:Has w g t o)(hne:t≠73)(cs:Array Value):LkT (w.setRow g cs) A n c l:=by
 have hn: ∀ad,A=some ad->ad.block≠g:=fun ad e hb=>by
  obtain⟨cs,hc⟩:=h.2.2 ad e;rw[hb]at hc;exact Has.other hg hc hne rfl
 refine⟨⟨h.1.1,qe4 h.1.2 hn _⟩,h.2.1,fun ad e=>?_⟩;obtain⟨cs',hc⟩:=h.2.2 ad e;exact⟨cs',qad hc (hn ad e) _⟩
theorem LkT.of_own {w:World}{base:Nat}{A:Option Addr}{n c:Nat}{l:List Lc3}(h:OwR lcC 3 73 base w A n c l):LkT w A n c l:=⟨h.sl,h.cap,fun ad e=>by
 subst e;obtain⟨g,cur,rfl,_,hh,_⟩:=h.has;exact⟨cur,hh⟩⟩
theorem LkT.none (w:World):LkT w none 0 0 []:=⟨SlO.nil _ _ _,Nat.le_refl _,fun ad e=>by cases e⟩
/-! Extents are short. -/
theorem ov_len16 (t:Tp3)(fr tz:Int)(path:List St3)(at_:Int):(ovGo t fr tz path at_).length<=path.length:=by
 induction path generalizing at_ with
 |nil=>exact Nat.le_refl _
 |cons s r ih=>
  rw[ovGo,List.length_append,List.length_cons];have:=ih (at_+lenAt t s);have h1: ∀a b,(partN s (lenAt t s) a b).length<=1:=fun a b=>by
   unfold partN;split<;>simp
  have:=h1 (cutA fr at_) (cutB tz at_ (lenAt t s));omega
theorem over_few16 (t:Tp3)(path:List St3)(fr tz:Int):(overE t path fr tz).1.length<=2*path.length:=by
 unfold overE;split
 ·split
  ·refine Nat.le_trans (form_few _ _ _) ?_
   have:=ov_len16 t fr tz path 0;simp;omega
  ·simp
 ·simp
end
section
open Go.RowKit
open Go.Great
theorem qc0 (s:St3): ∀u∈stC s,u.oneCell'=true:=by
 intro u hu;simp only[stC,List.mem_cons,List.not_mem_nil,or_false]at hu
 rcases hu with rfl|rfl<;>rfl
def isBool17:Value->Bool
 | .bool _=>true
 |_=>false
def noB17 (o:Array Value):Bool:=o.toList.all fun v=>!isBool17 v
theorem SlO.rowB17 {W:World}{A:Option Addr}{n c g:Nat}{l:List St3}{t:TypeId}{o:Array Value}(h:SlO stC 2 W A n c l)(hg:Has W g t o)(hb:noB17 o=true)(cs:Array Value):SlO stC 2 (W.setRow g cs) A n c l:=by
 cases l with
 |nil=>
  have h1:=h.1;rw[List.length_nil]at h1;subst h1;exact⟨rfl,rfl,h.2.2.1,fun ad e j u hu=>by simp at hu⟩
 |cons x r=>
  refine⟨h.1,qe4 h.2 (fun ad e hb2=>?_) _⟩;have h1:=h.2.2.2 ad e 1 (.bool x.rev) (by rw[List.flatMap_cons];rfl);obtain⟨b,off,e2,hc⟩:=h.at_ (fun _=>rfl) (by decide) (j:=0) (x:=x) rfl;rw[e]at e2;injection e2 with e2
  subst e2;have h2:=hc 1 _ rfl;subst hb2;rw[hg.cell]at h2;unfold noB17 at hb;rw[List.all_eq_true]at hb;have h3:=hb (.bool x.rev) (by
   rw[Array.mem_toList_iff];exact Array.mem_of_getElem? h2)
  cases h3
theorem pathR_of {t:Tp3}{id:Int}:pathR t id=(qbb t id).path:=by
 unfold pathR qbb
 cases qaS t id<;>rfl
theorem qbB {t:Tp3}(hl:qaH t=true)(id:Int):(pathR t id).length<=100:=by
 unfold pathR
 cases hq:qaS t id with
 |none=>simp
 |some r=>exact(qax hl).2.2.2.2 r (List.mem_of_find?_eq_some hq)
theorem way_take17 {t:Tp3}{l:List Lc3}{i:Nat}{k:Lc3}(h:l[i]?=some k):wayC t (l.take (i+1))=wayC t (l.take i)++pathR t k.route:=by
 unfold wayC;rw[List.take_add_one,h,List.flatMap_append];simp
theorem way_few17 {t:Tp3}(hl:qaH t=true)(l:List Lc3):(wayC t l).length<=100*l.length:=by
 induction l with
 |nil=>simp[wayC]
 |cons k r ih=>
  have h1:=qbB hl k.route;unfold wayC at ih⊢;rw[List.flatMap_cons,List.length_append,List.length_cons];omega
theorem SlO.locks17 {w:World}{A:Option Addr}{n c:Nat}{l:List Lc3}(h:SlO lcC 3 w A n c l){j:Nat}{x:Lc3}(hx:l[j]?=some x):
  ∃b off,A=some ⟨b,off,none⟩/\ ∀W,Below w.heap.size w W->W.cell? ⟨b,off+j*3,none⟩=some (.int .i64 x.route)/\W.cell? ⟨b,off+j*3+1,none⟩=some (.int .i64 x.train)/\W.cell? ⟨b,off+j*3+2,none⟩=some (.int .i64 x.no):=h.locks hx
theorem rway17 (t:Tp3)(a:TpA)(l:List Lc3)(A:Option Addr)(n c:Nat)(w:World)(ht:TopR w t a)(hl:qaH t=true)(hs:SlO lcC 3 w A n c l)(hn:n<=1000):
  Calls Tryz.prog 50 #[.agg (tpC t a),.slice A n c] w fun r w'=> ∃X x,r= .returned (.slice X (wayC t l).length x)/\OwR stC 2 30 w.heap.size w' X (wayC t l).length x (wayC t l)/\Below w.heap.size w w':=by
 obtain⟨wa,hwa,hbwa,HWA,HBWA,h0⟩:=bx1Z w 27 (tpC t a);have HT:=zq (fun W (hW:Below w.heap.size w W)=>ht.under hW);have H0:=zH h0;have HBA:=zq (fun W (hW:Below wa.heap.size wa W)=>hbwa.trans (hW.mono hbwa.size));have HLT:=zq hl;have HNN:=zq (qax hl);have HS:=zq hs;have HL:=zq hs.1;have HNB:=zq hn;have HBZ:=zq hbwa.size;clear hwa hbwa h0 ht hl hs hn;go_enter Tryz.func50,Tryz.ntmps50;go_upto_region 1 with fail;rw[HWA.out];clear HWA;go_wp2;go_loopg [5,6] n (fun kk v5 v6 wl=> ∃(i k:Nat) (X:Option Addr) (x:Nat) (q:List St3),i<=n/\n-i<=kk/\v6= .int .i64 i/\v5= .slice X k x/\Hid (q=wayC t (l.take i))/\Hid (OwR stC 2 30 wa.heap.size wl X k x q)/\Hid (Below wa.heap.size wa wl))
 case atStart=>exact⟨0,0,none,0,[],by omega,by omega,rfl,rfl,zq rfl,zq (OwR.nil _ _ _ _ _),zq (Below.refl _ _)⟩
 obtain⟨i,k,X,x,q,hi,hik,rfl,rfl,HQ,HO,HB⟩:=hrel;obtain⟨k1,hk1⟩: ∃k1,k1=gk:=⟨_,rfl⟩
 subst hk1;obtain⟨wv,hwv⟩: ∃wv,wv=wr:=⟨_,rfl⟩
 subst hwv;by_cases hlt:i<n;rotate_left
 ·obtain rfl:i=n:=by omega
  have x1: ¬(i:Int)<i:=by omega
  have HE:Hid (q=wayC t l):=zq (by rw[HQ.out,List.take_of_length_le (by rw[HL.out];exact Nat.le_refl _)]);clear hik hlt;go_wp2;go_ret
  have hk_:(wayC t l).length=k:=by rw[<-HE.out];exact HO.out.2
  rw[hk_];exact⟨X,x,rfl,by rw[<-HE.out];exact HO.out.to_base HBZ.out,HBA.out _ HB.out⟩
 obtain⟨s,hs⟩:=glZ l (i) (by rw[HL.out];exact hlt);have HTK:=zq (way_take17 (t:=t) hs);obtain⟨bk,off,rfl,hc⟩:=HS.out.locks17 hs;have HC:=zq hc;clear hs hc;obtain⟨kr,kt,kn⟩:=s;dsimp only at*;have x1:(i:Int)<n:=by omega
 have x2:(0:Int)<=i:=by omega
 have HIN:=zq (show i<n/\n-i<=k1 from⟨hlt,hik⟩);have HX:=zq (fun W (hW:Below wv.heap.size wv W)=>HBA.out W (bu HB.out hW));clear hlt hik hi;obtain⟨R_,hR_⟩: ∃r,qbb t kr=r:=⟨_,rfl⟩
 obtain⟨ri,rpath,rg,rt⟩:=R_;have HRR:=zq hR_;clear hR_;obtain⟨is_,his_⟩: ∃b,(qaS t kr).isSome=b:=⟨_,rfl⟩
 have HIS:=zq his_;clear his_;obtain⟨pn,hpn_⟩: ∃n,rpath.length=n:=⟨_,rfl⟩
 have HPN:=zq hpn_;clear hpn_;have HPE:=zq (show pathR t kr=rpath from by rw[pathR_of,HRR.out]);have HPF:=zq (show pn<=100 from by rw[<-HPN.out,<-HPE.out];exact qbB HLT.out kr);go_upto_region 5 with fail;go_cut [7] (fun s7 wx=> ∃g7 PA pc,s7= .pointer (some ⟨g7,0,none⟩)/\Has wx g7 75 #[.int .i64 ri,.slice PA pn pc,.int .i64 rg,.int .i64 rt]/\SlO stC 2 wx PA pn pc rpath/\Below wv.heap.size wv wx)
 case first=>
  refine wp_region_held_drew (S:=(fun W_=>(Has W_ (w.heap.size) 27 (tpC t a))/\(Below wv.heap.size wv W_))) (by kernel_rfl) ?_ (fun hHeld=>?_)
  ·exact⟨(H0.out _ HB.out).draw,qaf (Below.refl _ _)⟩
  refine tlZ 0 16 w.heap.size (tpC t a) (fun _ ⟨h_,_⟩=>h_) (h:=?_);simp only[lyZ];refine tkZ 1 17 (h:=?_);simp only[lyZ];refine tkZ 2 18 (h:=?_);simp only[lyZ];refine tkZ 3 19 (h:=?_);simp only[lyZ];refine tkZ 4 20 (h:=?_);simp only[lyZ];refine tqZ 5 21 (fun w_ ⟨s0,s1⟩=>(HC.out w_ (HX.out _ s1)).1) (h:=?_);simp only[lyZ];refine rdZ [6,10] ?_;refine acZ (some 22) (fun K hK=>?_) ?_
  ·go_simp
   obtain⟨s0,s1⟩:=hHeld;refine(rroute_any t a kr _ (HT.out _ (HX.out _ s1)) (by have:=HNN.out.2.2.2.1;omega)).mono ?_;rw[HRR.out,HIS.out];rintro e_ q1 ⟨v_,hv_,rfl,hb_⟩;obtain⟨PA,pc,rfl,hsp_⟩:=hv_;unfold rtA;dsimp only at hsp_⊢;rw[HPN.out]at hsp_;simp only[HPN.out];have HSP:=zq (hsp_);go_wp2_with fail;refine hK.out _ _ ?_ (fun hHeld=>?_)
   ·exact⟨s0.u hb_,bu s1 hb_⟩
   clear hK K s0 s1
   try simp only[lyZ]
   refine tkZ 7 15 (h:=?_);simp only[lyZ];refine tkZ 8 23 (h:=?_);simp only[lyZ];refine tkZ 9 24 (h:=?_);simp only[lyZ];refine rdZ [10] ?_;refine acZ (some 7) (fun K hK=>?_) ?_
   ·go_simp
    obtain⟨s0,s1⟩:=hHeld;obtain⟨g7,hg7⟩:=geZ (q1.heap.size);have p0_g7:w.heap.size<g7:=by rw[<-hg7];exact s0.lt
    have p1_g7:wv.heap.size<=g7:=by rw[<-hg7];exact s1.size
    rw[hg7];refine hK.out _ _ ?_ (fun hHeld=>?_)
    ·exact⟨s0.beside _,qan s1 _⟩
    have HSP:=zq (HSP.out.under ((Below.refl _ _).alloc (Nat.le_refl _) (.cells #[.int .i64 0,.slice none 0 0,.int .i64 0,.int .i64 0] 75)));refine mr2 (fun W_=>(∃o_:Array Value,Has W_ (g7) 75 o_/\o_.size=4/\noB17 o_=true)) ⟨s0.beside _,qan s1 _,⟨#[.int .i64 0,.slice none 0 0,.int .i64 0,.int .i64 0],(by rw[<-hg7];exact Has.made _ _ _),rfl,rfl⟩⟩ (fun h_=>?_);clear hHeld;have hHeld:=h_;clear h_;clear hK K hg7 s0 s1
    try simp only[lyZ]
    refine rdZ [11] ?_;refine acZ none (fun K hK=>?_) ?_
    ·rw[if_pos (by rfl)]
     obtain⟨s0,s1,s2⟩:=hHeld;obtain⟨o_,h_,e_⟩:=s2;refine wp_store_row 75 _ _ rfl (g7) #[.int .i64 ri,.slice PA pn pc,.int .i64 rg,.int .i64 rt] (by rfl) (by rfl) 75 o_ h_.raw11 (by kernel_rfl) e_.1 (by kernel_rfl) ?_;have HSP:=zq (HSP.out.rowB17 h_ e_.2 #[.int .i64 ri,.slice PA pn pc,.int .i64 rg,.int .i64 rt]);refine hK.out _ _ ?_ (fun hHeld=>?_)
     ·exact⟨qad s0 (by omega) _,qab s1 (by omega) _,⟨_,qaa h_ _,rfl,rfl⟩⟩
     refine mr3 (fun W_=>(Has W_ (g7) 75 #[.int .i64 ri,.slice PA pn pc,.int .i64 rg,.int .i64 rt])) ⟨qad s0 (by omega) _,qab s1 (by omega) _,⟨_,qaa h_ _,rfl,rfl⟩,qaa h_ _⟩ (fun h_=>?_);clear hHeld;have hHeld:=h_;clear h_;clear hK K h_ e_ s0 s1
     try simp only[Act.put]
     refine tkZ 12 8 (h:=?_);simp only[lyZ];refine dnZ ?_;go_wp2_with fail;go_meet
     exact⟨_,_,_,rfl,hHeld.2.2.2,HSP.out,hHeld.2.1⟩
    exact AllReadyH.nil
   exact AllReadyH.nil
  refine acZ (some 7) (fun K hK=>?_) ?_
  ·go_simp
   obtain⟨s0,s1⟩:=hHeld;obtain⟨g7,hg7⟩:=geZ (wv.heap.size);have p0_g7:w.heap.size<g7:=by rw[<-hg7];exact s0.lt
   have p1_g7:wv.heap.size<=g7:=by rw[<-hg7];exact s1.size
   rw[hg7];refine hK.out _ _ ?_ (fun hHeld=>?_)
   ·exact⟨s0.beside _,qan s1 _⟩
   refine mr2 (fun W_=>(∃o_:Array Value,Has W_ (g7) 75 o_/\o_.size=4/\noB17 o_=true)) ⟨s0.beside _,qan s1 _,⟨#[.int .i64 0,.slice none 0 0,.int .i64 0,.int .i64 0],(by rw[<-hg7];exact Has.made _ _ _),rfl,rfl⟩⟩ (fun h_=>?_);clear hHeld;have hHeld:=h_;clear h_;clear hK K hg7 s0 s1
   try simp only[lyZ]
   refine rdZ [6] ?_;refine acZ (some 22) (fun K hK=>?_) ?_
   ·go_simp
    obtain⟨s0,s1,s2⟩:=hHeld;refine(rroute_any t a kr _ (HT.out _ (HX.out _ s1)) (by have:=HNN.out.2.2.2.1;omega)).mono ?_;rw[HRR.out,HIS.out];rintro e_ q1 ⟨v_,hv_,rfl,hb_⟩;obtain⟨PA,pc,rfl,hsp_⟩:=hv_;unfold rtA;dsimp only at hsp_⊢;rw[HPN.out]at hsp_;simp only[HPN.out];have HSP:=zq (hsp_);go_wp2_with fail;refine hK.out _ _ ?_ (fun hHeld=>?_)
    ·exact⟨s0.u hb_,bu s1 hb_,(let ⟨o_,h_,e_⟩:=s2;⟨o_,h_.u hb_,e_⟩)⟩
    clear hK K s0 s1 s2
    try simp only[lyZ]
    refine tkZ 7 15 (h:=?_);simp only[lyZ];refine tkZ 8 23 (h:=?_);simp only[lyZ];refine tkZ 9 24 (h:=?_);simp only[lyZ];refine rdZ [11] ?_;refine acZ none (fun K hK=>?_) ?_
    ·rw[if_pos (by rfl)]
     obtain⟨s0,s1,s2⟩:=hHeld;obtain⟨o_,h_,e_⟩:=s2;refine wp_store_row 75 _ _ rfl (g7) #[.int .i64 ri,.slice PA pn pc,.int .i64 rg,.int .i64 rt] (by rfl) (by rfl) 75 o_ h_.raw11 (by kernel_rfl) e_.1 (by kernel_rfl) ?_;have HSP:=zq (HSP.out.rowB17 h_ e_.2 #[.int .i64 ri,.slice PA pn pc,.int .i64 rg,.int .i64 rt]);refine hK.out _ _ ?_ (fun hHeld=>?_)
     ·exact⟨qad s0 (by omega) _,qab s1 (by omega) _,⟨_,qaa h_ _,rfl,rfl⟩⟩
     refine mr3 (fun W_=>(Has W_ (g7) 75 #[.int .i64 ri,.slice PA pn pc,.int .i64 rg,.int .i64 rt])) ⟨qad s0 (by omega) _,qab s1 (by omega) _,⟨_,qaa h_ _,rfl,rfl⟩,qaa h_ _⟩ (fun h_=>?_);clear hHeld;have hHeld:=h_;clear h_;clear hK K h_ e_ s0 s1
     try simp only[Act.put]
     refine tkZ 12 8 (h:=?_);simp only[lyZ];refine dnZ ?_;go_wp2_with fail;go_meet
     exact⟨_,_,_,rfl,hHeld.2.2.2,HSP.out,hHeld.2.1⟩
    exact AllReadyH.nil
   exact AllReadyH.nil
  exact AllReadyH.nil
 obtain⟨g7,PA,pc,rfl,h7_,hsp_,hb_⟩:=hcut;obtain⟨u2,hu2⟩: ∃u2,u2=wc:=⟨_,rfl⟩
 subst hu2;have H7:=zq h7_;have HSP:=zq hsp_;have HO2:=zq (HO.out.under hb_);have HB2:=tB HB hb_;clear h7_ hsp_ hb_ HO HB;have c1:u2.cell? ⟨g7,1,none⟩=some (.slice PA pn pc):=H7.out.cell 1;have HKB:=zq (show k<=100*i from by rw[<-HO2.out.2,HQ.out];have h1_:=way_few17 HLT.out (l.take i);have h2_:(l.take i).length<=i:=List.length_take_le ..;omega);obtain⟨hO,hSL,h1,hBD⟩:=pourR 16 HO2.out HSP.out qc0 HB2.out.size (by have h1_:=HKB.out;have h2_:=HPF.out;have h3_:=HIN.out;have h4_:=HNB.out;omega) (by omega);go_upto_region 6 with fail;go_wp2_with (with_reducible refine qaG (o:=⟨some 28,_,_,_,_,_⟩) rfl (.tmp 25) (.tmp 27) 35 rfl wa.heap.size 30 (.agg #[.int .i64 0,.bool false]) 2 16 Tryz.underlying35 qa6 ?hz (by decide) X (k) x ((q).flatMap stC) ?hs hO PA pn pc ((rpath).flatMap stC) ?hx hSL h1 hBD ?next)
 all_goals try rfl
 intro X3 x3 u3 ho hg;have HO3:=zq (OwR.poured HO2.out.2 HPN.out ho.out);have HB3:=zq (qai HB2.out HB2.out.size hO.out (Nat.le_refl _) rfl hg.out);have HQ3:Hid (q++rpath=wayC t (l.take (i+1))):=zq (by rw[HTK.out,HQ.out,HPE.out]);clear ho hg hO hSL h1 hBD HO2 HSP H7 HB2 c1;go_wp2;go_roundg (k1-1)
 case measure=>have:=HIN.out;omega
 case rel=>exact⟨i+1,k+pn,X3,x3,q++rpath,by have:=HIN.out;omega,by have:=HIN.out;omega,by first|go_num|(rw[IntWalk.wrap64_in _ (by have h1_:=HIN.out;have h2_:=HNB.out;omega)];go_num),rfl,HQ3,HO3,HB3⟩
theorem qfj {t:Tp3}{s y:St3}{k:Nat}{left:Int}(hk:k<60)(h0:0<left)(ha:qau t s=[y]):qaW t (60-k) s left=s::qaW t (60-(k+1)) y (left-lenAt t y):=by
 rw[show 60-k=(60-(k+1))+1 by omega,qaW,if_pos h0,ha]
theorem qbU {t:Tp3}{s:St3}{k:Nat}{left:Int}(h: ¬(0<left/\k<60)\/(qau t s).length≠1):qaW t (60-k) s left=[s]:=by
 cases hq:60-k with
 |zero=>rfl
 |succ j=>
  rw[qaW];by_cases h0:0<left
  ·rw[if_pos h0]
   rcases h with h|h
   ·exact absurd ⟨h0,by omega⟩ h
   ·split
    ·rename_i x hx
     rw[hx]at h;exact absurd rfl h
    ·rfl
  ·rw[if_neg h0]
theorem qcm {W:World}{base gx k c:Nat}{l:List St3}{s:St3}(h:OwR stC 2 30 base W (some ⟨gx,0,none⟩) k c l)(hs:l[k-1]?=some s):W.cell? ⟨gx,(k-1)*2,none⟩=some (.int .i64 s.edge)/\W.cell? ⟨gx,(k-1)*2+1,none⟩=some (.bool s.rev):=by
 have h0:=h.sl.at_cell (fun _=>rfl) (by decide) hs (i:=0) rfl;have h1:=h.sl.at_cell (fun _=>rfl) (by decide) hs (i:=1) rfl;simp only[Nat.zero_add,Nat.add_zero]at h0 h1;exact⟨h0,h1⟩
theorem rgone17 (t:Tp3)(a:TpA)(p:Ps3)(n:Int)(w:World)(ht:TopR w t a)(hl:qaH t=true)(hok:qav t=true)(hon:onB t p=true)(hn:0<=n/\n<=1099511627776):
  Calls Tryz.prog 61 #[.agg (tpC t a),.agg (psA p),.int .i64 n] w fun r w'=> ∃X x,r= .returned (.slice X (goneL t p n).length x)/\OwR stC 2 30 w.heap.size w' X (goneL t p n).length x (goneL t p n)/\Below w.heap.size w w':=by
 have HAH:=zq (qcP hok hon);have hed:=(qbh.1 hon).1;have hat:=(qbh.1 hon).2;obtain⟨L,hL⟩:=geZ (n-qaB t p);have HLB:=zq (show -1000000<=L/\L<=1099511627776 from by have:=HAH.out;omega);obtain⟨GL,hGL⟩: ∃G,goneL t p n=G:=⟨_,rfl⟩
 have HG:=zq (show qaW t 59 (stepP p) L=GL from by rw[<-hL];exact hGL);rw[hGL];have HLA:=zq (show∀s:St3,edgeB t s.edge=true->1<=lenAt t s/\lenAt t s<=1000000 from fun s hs=>qaT hok hs);obtain⟨pe,pa,pr⟩:=p;unfold stepP at HG;dsimp only at hed hat HG;have hed2:0<=pe/\pe<t.edges.length:=by have h_:=hed;unfold edgeB at h_;simpa using h_
 obtain⟨e,rfl⟩: ∃e:Nat,pe=e:=⟨pe.toNat,by omega⟩
 unfold psA;dsimp only;obtain⟨wa,hwa,hbwa,HWA,HBWA,h0,h1⟩:=bx2Z w 27 (tpC t a) 51 #[.int .i64 (e:Int),.int .i64 pa,.bool pr];have HT:=zq (fun W (hW:Below wa.heap.size wa W)=>(ht.under hbwa).under hW);have H0:=zH h0;have H1:=zH h1;have HBZ:=zq hbwa.size;have HLT:=zq hl;have HNN:=zq (qax hl);have HED:=zq hed;have hel:e<t.edges.length:=by omega
 have hae:qaB t ⟨e,pa,pr⟩=if pr=true then pa else t.edges.getD e 0-pa:=by unfold qaB qat;first|rfl|simp
 obtain⟨ln,hln⟩: ∃x,t.edges.getD e 0=x:=⟨_,rfl⟩
 rw[hae,hln]at hL;have hatb:0<=pa/\pa<=ln:=by have h_:=hat;unfold qat at h_;rw[<-hln];simpa using h_
 have HLN:=zq (show 1<=ln/\ln<=1000000 from by have h_:=qaT hok (s:=⟨e,pr⟩) hed;unfold lenAt at h_;rw[<-hln];dsimp only at h_;simpa using h_);obtain⟨be,oe,hpa_,ce⟩:=(HT.out wa (Below.refl _ _)).e.edge hel;rw[hln]at ce;have HPA:=zq hpa_;have HHL:=zq hL;have HAB:=zq hatb;have HNB:=zq hn;have HEL:=zq hel;have HBE:=zq (show∀W,Below wa.heap.size wa W->W.cell? ⟨be,oe+e,none⟩=some (.int .i64 ln)from fun W hW=>(hW.cell (qah ce)).trans ce);have p0:wa.cell? ⟨w.heap.size+1,0,none⟩=some (.int .i64 (e:Int)):=h1.cell 0;have p2:wa.cell? ⟨w.heap.size+1,2,none⟩=some (.bool pr):=h1.cell 2;clear hwa hbwa h0 h1 ht hl hok hon hn hat hL hGL hae hln hatb ce hpa_ hel hed2 hed;go_enter Tryz.func61,Tryz.ntmps61;go_upto_region 1 with fail;rw[HWA.out];clear HWA;go_upto_region 2 with fail;obtain⟨wb,hwb⟩:=geZ (wa.alloc (.cells #[.int .i64 (e:Int),.bool pr] 30));rw[hwb];have HBB:=zq (show Below wa.heap.size wa wb from by rw[<-hwb];exact bA);have HO:=zq (show OwR stC 2 30 wa.heap.size wb (some ⟨wa.heap.size,0,none⟩) 1 1 [⟨e,pr⟩]from by rw[<-hwb];exact⟨World.ownsRow_lit (base:=wa.heap.size) (e:=30) (size:=2) wa #[.int .i64 (e:Int),.bool pr] 1 (Nat.le_refl _) (by unfold maxLen;omega) rfl,rfl⟩);clear hwb p0 p2;have p0:wb.cell? ⟨w.heap.size+1,0,none⟩=some (.int .i64 (e:Int)):=(H1.out wb HBB.out).cell 0;have p1:wb.cell? ⟨w.heap.size+1,1,none⟩=some (.int .i64 pa):=(H1.out wb HBB.out).cell 1;have c0:wb.cell? ⟨w.heap.size,0,none⟩=some (.slice (some ⟨be,oe,none⟩) t.edges.length a.ce):=by have h_:=(H0.out wb HBB.out).cell 0;rw[<-HPA.out];exact h_
 have c1:=HBE.out wb HBB.out;have y0:(0:Int)<=e:=by omega
 have y1:(e:Int)<t.edges.length:=by have:=HEL.out;omega
 obtain⟨d1,hd1⟩: ∃d,ln-pa=d:=⟨_,rfl⟩
 have hw1:IntKind.i64.wrap (ln-pa)=d1:=by rw[IntKind.wrap_i64];have h1_:=HLN.out;have h2_:=HAB.out;omega
 obtain⟨l1,hl1⟩: ∃d,n-d1=d:=⟨_,rfl⟩
 have hw2:IntKind.i64.wrap (n-d1)=l1:=by rw[IntKind.wrap_i64];have h1_:=HLN.out;have h2_:=HAB.out;have h3_:=HNB.out;omega
 have HD1:=zq (show ln-pa=d1/\n-d1=l1 from⟨hd1,hl1⟩);clear hd1 hl1;go_quiet (fail);obtain⟨wq,hwq⟩: ∃wd,wb.drewN nq=wd:=⟨_,rfl⟩
 rw[hwq];have HO2:=zq (show OwR stC 2 30 wa.heap.size wq (some ⟨wa.heap.size,0,none⟩) 1 1 [⟨e,pr⟩]from by rw[<-hwq];exact HO.out.draws _);have HBQ:=zq (show Below wa.heap.size wa wq from by rw[<-hwq];exact qac HBB.out _);clear hwq hw1 hw2 p0 p1 c0 c1 y0 y1 HO HBB;have p1:wq.cell? ⟨w.heap.size+1,1,none⟩=some (.int .i64 pa):=(H1.out wq HBQ.out).cell 1;have p2:wq.cell? ⟨w.heap.size+1,2,none⟩=some (.bool pr):=(H1.out wq HBQ.out).cell 2
 cases pr with
 |true=>
  have hLL:n-pa=L:=by have h_:=HHL.out;simpa using h_
  have hw1:wrap64 (n-pa)=L:=by rw[IntWalk.wrap64_in _ (by have h1_:=HLB.out;omega)];exact hLL
  clear hLL HHL HD1;go_wp2;clear p1 p2;go_loopg [7,8] 60 (fun kk v7 v8 wl=> ∃(k:Nat) (X:Option Addr) (x:Nat) (q:List St3) (s:St3) (left:Int),k<=60/\60-k<=kk/\v7= .slice X k x/\v8= .int .i64 left/\Hid (q.length+1=k)/\Hid (q++qaW t (60-k) s left=GL)/\Hid (edgeB t s.edge=true/\ -1000000<=left/\left<=1099511627776)/\Hid (OwR stC 2 30 wa.heap.size wl X k x (q++[s]))/\Hid (Below wa.heap.size wa wl))
  case atStart=>exact⟨1,_,1,[],⟨e,true⟩,L,by omega,by omega,rfl,by first|rfl|rw[hw1],zq rfl,zq (by first|exact HG.out|(simpa using HG.out)),zq ⟨HED.out,HLB.out⟩,HO2,HBQ⟩
  clear HO2 HBQ
  try clear hw1
  obtain⟨k,X,x,q,s,left,hk,hkk,rfl,rfl,HQL,HQ,HSB,HO,HB⟩:=hrel;obtain⟨k1,hk1⟩: ∃k1,k1=gk:=⟨_,rfl⟩
  subst hk1;obtain⟨wv,hwv⟩: ∃wv,wv=wr:=⟨_,rfl⟩
  subst hwv;have HK:=zq (show 1<=k/\k<=60/\60-k<=k1 from by have:=HQL.out;omega);by_cases z0:0<left;rotate_left
  ·skip
   have HF:=zq (show q++[s]=GL from by have h_:=HQ.out;rw[qbU (.inl (fun h=>z0 h.1))]at h_;exact h_);clear hk hkk;go_wp2;go_ret
   have hl_:GL.length=k:=by rw[<-HF.out];exact HO.out.2
   rw[hl_,<-HF.out];exact⟨_,x,rfl,HO.out.to_base HBZ.out,HBWA.out.trans (HB.out.mono HBWA.out.size)⟩
  by_cases z1:k<60;rotate_left
  ·have z1': ¬(k:Int)<60:=by omega
   have HF:=zq (show q++[s]=GL from by have h_:=HQ.out;rw[qbU (.inl (fun h=>z1 h.2))]at h_;exact h_);clear hk hkk;go_wp2;go_ret
   have hl_:GL.length=k:=by rw[<-HF.out];exact HO.out.2
   rw[hl_,<-HF.out];exact⟨_,x,rfl,HO.out.to_base HBZ.out,HBWA.out.trans (HB.out.mono HBWA.out.size)⟩
  have z1':(k:Int)<60:=by omega
  obtain⟨gx,hgx,_,_⟩:=HO.out.some (by have:=HK.out;omega);subst hgx;have HLS:=zq (fun W (hW:Below wv.heap.size wv W)=>qcm (HO.out.under hW) (s:=s) (by rw[show k-1=q.length by have:=HQL.out;omega];simp));have HGX:=zq (HO.out.lt rfl);have HXA:=zq (fun W (hW:Below wv.heap.size wv W)=>HB.out.trans (hW.mono HB.out.size));have HZZ:=zq (show 0<left/\k<60 from⟨z0,z1⟩);obtain⟨se,sr⟩:=s;dsimp only at HLS HSB;obtain⟨al,hal⟩: ∃l,qau t ⟨se,sr⟩=l:=⟨_,rfl⟩
  have HAL:=zq hal;clear hal hk hkk;obtain⟨an,han⟩: ∃n,al.length=n:=⟨_,rfl⟩
  have HAN:=zq han;clear han;go_upto_region 6 with fail;clear z0 z1 z1';have hw1:IntKind.i64.wrap ((k:Int)-1)=(k:Int)-1:=by rw[IntKind.wrap_i64];have h1_:=HK.out;omega
  have hw2:((k:Int)-1).toNat=k-1:=by omega
  have u1:(0:Int)<=(k:Int)-1:=by have:=HK.out;omega
  have u2:(k:Int)-1<k:=by omega
  have u3:(1:Int)<=(k:Int):=by have:=HK.out;omega
  refine wp_region_held_drew (S:=(fun W_=>(Has W_ (w.heap.size) 27 (tpC t a))/\(Below wv.heap.size wv W_))) (by kernel_rfl) ?_ (fun hHeld=>?_)
  ·exact⟨(H0.out _ HB.out).draw,qaf (Below.refl _ _)⟩
  refine tlZ 0 40 w.heap.size (tpC t a) (fun _ ⟨h_,_⟩=>h_) (h:=?_);simp only[lyZ];refine tkZ 1 41 (h:=?_);simp only[lyZ];refine tkZ 2 42 (h:=?_);simp only[lyZ];refine tkZ 3 43 (h:=?_);simp only[lyZ];refine tkZ 4 44 (h:=?_);simp only[lyZ];refine tkZ 5 45 (h:=?_);simp only[lyZ];refine tqZ 6 46 (fun w_ ⟨s0,s1⟩=>And.intro ((HLS.out w_ s1).1) ((HLS.out w_ s1).2)) (h:=?_);simp only[lyZ];refine aoZ 7 (some 47) (fun K hK=>?_);go_simp;obtain⟨s0,s1⟩:=hHeld;refine(qet t a ⟨se,sr⟩ _ (HT.out _ (HXA.out _ s1)) HNN.out.1 HNN.out.2.1).mono ?_;rw[HAL.out,HAN.out];rintro e_ v1 ⟨A1,c1_,rfl,hs1,hlo1,hb1⟩;have HS1:=zq hs1;have HLO:=zq (show∀ad:Addr,A1=some ad->wv.heap.size<=ad.block from fun ad e=>Nat.le_trans s1.size (hlo1 ad e));go_wp2_with fail;refine hK.out _ _ ?_ (fun hHeld=>?_)
  ·exact⟨s0.u hb1,bu s1 hb1⟩
  clear hK K s0 s1
  try simp only[lyZ]
  refine tkZ 8 9 (h:=?_);simp only[lyZ];refine dnZ ?_;have HBV:=zq hHeld.2;clear hHeld hw1 hw2 u1 u2 u3;obtain⟨u0,hu0⟩: ∃u,u=v1:=⟨_,rfl⟩
  subst hu0;have HO:=zq (HO.out.under HBV.out);have HB:=zq (HXA.out _ HBV.out);clear HBV HLS HXA;by_cases z2:an=1;rotate_left
  ·have z2':((an:Int) !=1)=true:=by simp;omega
   have z2'': ¬(an:Int)=1:=by omega
   have hk:=HK.out.1;have hkk:=HK.out.2.1;have HF:=zq (show q++[⟨se,sr⟩]=GL from by have h_:=HQ.out;rw[qbU (.inr (by rw[HAL.out,HAN.out];exact z2))]at h_;exact h_);clear hk hkk;go_wp2;go_ret
   have hl_:GL.length=k:=by rw[<-HF.out];exact HO.out.2
   rw[hl_,<-HF.out];exact⟨_,x,rfl,HO.out.to_base HBZ.out,HBWA.out.trans (HB.out.mono HBWA.out.size)⟩
  subst z2;obtain⟨y,hy⟩: ∃y,al=[y]:=List.length_eq_one_iff.1 HAN.out;have HAY:=zq (HAL.out.trans hy);subst hy;obtain⟨b1,o1,rfl,d0,d1⟩:=HS1.out.step (j:=0) (x:=y) rfl;rw[Nat.zero_mul,Nat.add_zero]at d0 d1;have HNE:=zq (show b1≠gx from by have h1_:=HLO.out _ rfl;have h2_:=HGX.out;dsimp only at h1_ h2_;omega);clear HLO HGX;have HYE:=zq (show edgeB t y.edge=true from(qbd.1 (by rw[HAY.out];exact List.mem_cons_self ..)).2.1);have HST:=zq (qfj HZZ.out.2 HZZ.out.1 HAY.out);have HYL:=zq (HLA.out y HYE.out);obtain⟨ly,hly⟩: ∃l,lenAt t y=l:=⟨_,rfl⟩
  rw[hly]at HST HYL;have HLY:=zq hly;obtain⟨ye,yr⟩:=y;dsimp only at d0 d1 HYE;have HD:=zq (show∀W,Below u0.heap.size u0 W->W.cell? ⟨b1,o1,none⟩=some (.int .i64 ye)from fun W hW=>(hW.cell (qah d0)).trans d0);clear hly;obtain⟨q2,hq2⟩:=geZ (q++[(⟨se,sr⟩:St3)]);rw[hq2]at HO;have HQ2:=zq hq2;clear hq2;go_upto_region 9 with fail;obtain⟨hN,hO,hC,h1,hBD⟩:=pushR (f:=stC) (k:=2) (e:=30) (w:=u0) 16 ⟨ye,yr⟩ #[.int .i64 ye,.bool yr] rfl rfl (qc0 _) HO.out HB.out.size (by have h1_:=HK.out;omega) (by omega);have HBW:=zq (show Below wa.heap.size wa (u0.alloc (.cells #[.int .i64 ye,.bool yr] 30))from HB.out.alloc HB.out.size _);have HLN2:=zq HO.out.2;have HGR:=zq HO.out;go_wp2_with (with_reducible refine qao (o:=⟨some 57,_,_,_,_,_⟩) rfl (.tmp 52) (.tmp 56) 35 rfl wa.heap.size 30 (.agg #[.int .i64 0,.bool false]) 2 16 Tryz.underlying35 qa6 ?hz1 (by decide) (some ⟨gx,0,none⟩) (k) x ((q2).flatMap stC) ?hs1 hO ⟨u0.heap.size,0,none⟩ 1 1 (stC ⟨ye,yr⟩) ?hx1 hN hC h1 hBD ?next1)
  all_goals try rfl
  intro X3 x3 u3 ho hg;have HO3:=zq (OwR.snoc HLN2.out ho.out);have HB3:=zq (qai HBW.out HBW.out.size hO.out (Nat.le_refl _) rfl hg.out);have HS3:=zq (show u3.cell? ⟨b1,o1,none⟩=some (.int .i64 ye)from hg.out.cell (HD.out _ (bA)) (fun h_=>HNE.out (by first|exact Option.some.inj h_|(simpa[Value.ownBlock]using h_))));clear ho hg hN hO hC h1 hBD HBW HLN2 d0 d1 HO HB HS1 HGR HD HNE;have hy2:0<=ye/\ye<t.edges.length:=by have h_:=HYE.out;unfold edgeB at h_;simpa using h_
  obtain⟨ey,hey⟩: ∃e:Nat,ye=e:=⟨ye.toNat,by omega⟩
  have hel:ey<t.edges.length:=by omega
  obtain⟨be2,oe2,hpa_,ce2⟩:=(HT.out u3 HB3.out).e.edge hel;have hlnY:t.edges.getD ey 0=ly:=by have h_:=HLY.out;unfold lenAt at h_;dsimp only at h_;rw[hey]at h_;simpa using h_
  rw[hlnY]at ce2;have c0:u3.cell? ⟨w.heap.size,0,none⟩=some (.slice (some ⟨be2,oe2,none⟩) t.edges.length a.ce):=by have h_:=(H0.out u3 HB3.out).cell 0;rw[<-hpa_];exact h_
  have s0:=HS3.out;subst hey;have y0:(0:Int)<=ey:=by omega
  have y1:(ey:Int)<t.edges.length:=by omega
  have HNX:=zq (show edgeB t (ey:Int)=true from HYE.out);clear hy2 hpa_ hlnY hel HYE HS3 HLY;obtain⟨l2,hl2⟩: ∃d,left-ly=d:=⟨_,rfl⟩
  have hw1:IntKind.i64.wrap (left-ly)=l2:=by rw[IntKind.wrap_i64];have h1_:=HYL.out;have h2_:=HSB.out.2;omega
  rw[hl2]at HST;have HL2:=zq (show -1000000<=l2/\l2<=1099511627776 from by have h1_:=HYL.out;have h2_:=HSB.out.2;have h3_:=HZZ.out;omega);have HQ3:=zq (show q2++qaW t (60-(k+1)) ⟨ey,yr⟩ l2=GL from by rw[<-HQ2.out,<-HQ.out,HST.out];simp);clear hl2 HST HQ;go_upto_region 10 with fail;go_quiet (fail);obtain⟨wd,hwd⟩:=geZ (u3.drewN nq);rw[hwd];have HO4:=zq (show OwR stC 2 30 wa.heap.size wd X3 (k+1) x3 (q2++[⟨ey,yr⟩])from by rw[<-hwd];exact HO3.out.draws _);have HB4:=zq (show Below wa.heap.size wa wd from by rw[<-hwd];exact qac HB3.out _);clear hwd HO3 HB3 hw1 c0 ce2 s0 y0 y1;go_wp2;go_roundg (k1-1)
  case measure=>have h1_:=HK.out;have h2_:=HZZ.out;omega
  case rel=>exact⟨k+1,X3,x3,q2,⟨ey,yr⟩,l2,by have:=HZZ.out;omega,by have h1_:=HK.out;have h2_:=HZZ.out;omega,rfl,rfl,zq (by rw[<-HQ2.out,List.length_append,<-HQL.out];rfl),HQ3,zq ⟨HNX.out,HL2.out⟩,HO4,HB4⟩
 |false=>
  have hLL:l1=L:=by have h_:=HHL.out;have h2_:=HD1.out;simp at h_;omega
  subst hLL;clear HHL HD1;go_wp2;clear p1 p2;go_loopg [7,8] 60 (fun kk v7 v8 wl=> ∃(k:Nat) (X:Option Addr) (x:Nat) (q:List St3) (s:St3) (left:Int),k<=60/\60-k<=kk/\v7= .slice X k x/\v8= .int .i64 left/\Hid (q.length+1=k)/\Hid (q++qaW t (60-k) s left=GL)/\Hid (edgeB t s.edge=true/\ -1000000<=left/\left<=1099511627776)/\Hid (OwR stC 2 30 wa.heap.size wl X k x (q++[s]))/\Hid (Below wa.heap.size wa wl))
  case atStart=>exact⟨1,_,1,[],⟨e,false⟩,_,by omega,by omega,rfl,rfl,zq rfl,zq (by first|exact HG.out|(simpa using HG.out)),zq ⟨HED.out,HLB.out⟩,HO2,HBQ⟩
  clear HO2 HBQ
  try clear hw1
  obtain⟨k,X,x,q,s,left,hk,hkk,rfl,rfl,HQL,HQ,HSB,HO,HB⟩:=hrel;obtain⟨k1,hk1⟩: ∃k1,k1=gk:=⟨_,rfl⟩
  subst hk1;obtain⟨wv,hwv⟩: ∃wv,wv=wr:=⟨_,rfl⟩
  subst hwv;have HK:=zq (show 1<=k/\k<=60/\60-k<=k1 from by have:=HQL.out;omega);by_cases z0:0<left;rotate_left
  ·skip
   have HF:=zq (show q++[s]=GL from by have h_:=HQ.out;rw[qbU (.inl (fun h=>z0 h.1))]at h_;exact h_);clear hk hkk;go_wp2;go_ret
   have hl_:GL.length=k:=by rw[<-HF.out];exact HO.out.2
   rw[hl_,<-HF.out];exact⟨_,x,rfl,HO.out.to_base HBZ.out,HBWA.out.trans (HB.out.mono HBWA.out.size)⟩
  by_cases z1:k<60;rotate_left
  ·have z1': ¬(k:Int)<60:=by omega
   have HF:=zq (show q++[s]=GL from by have h_:=HQ.out;rw[qbU (.inl (fun h=>z1 h.2))]at h_;exact h_);clear hk hkk;go_wp2;go_ret
   have hl_:GL.length=k:=by rw[<-HF.out];exact HO.out.2
   rw[hl_,<-HF.out];exact⟨_,x,rfl,HO.out.to_base HBZ.out,HBWA.out.trans (HB.out.mono HBWA.out.size)⟩
  have z1':(k:Int)<60:=by omega
  obtain⟨gx,hgx,_,_⟩:=HO.out.some (by have:=HK.out;omega);subst hgx;have HLS:=zq (fun W (hW:Below wv.heap.size wv W)=>qcm (HO.out.under hW) (s:=s) (by rw[show k-1=q.length by have:=HQL.out;omega];simp));have HGX:=zq (HO.out.lt rfl);have HXA:=zq (fun W (hW:Below wv.heap.size wv W)=>HB.out.trans (hW.mono HB.out.size));have HZZ:=zq (show 0<left/\k<60 from⟨z0,z1⟩);obtain⟨se,sr⟩:=s;dsimp only at HLS HSB;obtain⟨al,hal⟩: ∃l,qau t ⟨se,sr⟩=l:=⟨_,rfl⟩
  have HAL:=zq hal;clear hal hk hkk;obtain⟨an,han⟩: ∃n,al.length=n:=⟨_,rfl⟩
  have HAN:=zq han;clear han;go_upto_region 6 with fail;clear z0 z1 z1';have hw1:IntKind.i64.wrap ((k:Int)-1)=(k:Int)-1:=by rw[IntKind.wrap_i64];have h1_:=HK.out;omega
  have hw2:((k:Int)-1).toNat=k-1:=by omega
  have u1:(0:Int)<=(k:Int)-1:=by have:=HK.out;omega
  have u2:(k:Int)-1<k:=by omega
  have u3:(1:Int)<=(k:Int):=by have:=HK.out;omega
  refine wp_region_held_drew (S:=(fun W_=>(Has W_ (w.heap.size) 27 (tpC t a))/\(Below wv.heap.size wv W_))) (by kernel_rfl) ?_ (fun hHeld=>?_)
  ·exact⟨(H0.out _ HB.out).draw,qaf (Below.refl _ _)⟩
  refine tlZ 0 40 w.heap.size (tpC t a) (fun _ ⟨h_,_⟩=>h_) (h:=?_);simp only[lyZ];refine tkZ 1 41 (h:=?_);simp only[lyZ];refine tkZ 2 42 (h:=?_);simp only[lyZ];refine tkZ 3 43 (h:=?_);simp only[lyZ];refine tkZ 4 44 (h:=?_);simp only[lyZ];refine tkZ 5 45 (h:=?_);simp only[lyZ];refine tqZ 6 46 (fun w_ ⟨s0,s1⟩=>And.intro ((HLS.out w_ s1).1) ((HLS.out w_ s1).2)) (h:=?_);simp only[lyZ];refine aoZ 7 (some 47) (fun K hK=>?_);go_simp;obtain⟨s0,s1⟩:=hHeld;refine(qet t a ⟨se,sr⟩ _ (HT.out _ (HXA.out _ s1)) HNN.out.1 HNN.out.2.1).mono ?_;rw[HAL.out,HAN.out];rintro e_ v1 ⟨A1,c1_,rfl,hs1,hlo1,hb1⟩;have HS1:=zq hs1;have HLO:=zq (show∀ad:Addr,A1=some ad->wv.heap.size<=ad.block from fun ad e=>Nat.le_trans s1.size (hlo1 ad e));go_wp2_with fail;refine hK.out _ _ ?_ (fun hHeld=>?_)
  ·exact⟨s0.u hb1,bu s1 hb1⟩
  clear hK K s0 s1
  try simp only[lyZ]
  refine tkZ 8 9 (h:=?_);simp only[lyZ];refine dnZ ?_;have HBV:=zq hHeld.2;clear hHeld hw1 hw2 u1 u2 u3;obtain⟨u0,hu0⟩: ∃u,u=v1:=⟨_,rfl⟩
  subst hu0;have HO:=zq (HO.out.under HBV.out);have HB:=zq (HXA.out _ HBV.out);clear HBV HLS HXA;by_cases z2:an=1;rotate_left
  ·have z2':((an:Int) !=1)=true:=by simp;omega
   have z2'': ¬(an:Int)=1:=by omega
   have hk:=HK.out.1;have hkk:=HK.out.2.1;have HF:=zq (show q++[⟨se,sr⟩]=GL from by have h_:=HQ.out;rw[qbU (.inr (by rw[HAL.out,HAN.out];exact z2))]at h_;exact h_);clear hk hkk;go_wp2;go_ret
   have hl_:GL.length=k:=by rw[<-HF.out];exact HO.out.2
   rw[hl_,<-HF.out];exact⟨_,x,rfl,HO.out.to_base HBZ.out,HBWA.out.trans (HB.out.mono HBWA.out.size)⟩
  subst z2;obtain⟨y,hy⟩: ∃y,al=[y]:=List.length_eq_one_iff.1 HAN.out;have HAY:=zq (HAL.out.trans hy);subst hy;obtain⟨b1,o1,rfl,d0,d1⟩:=HS1.out.step (j:=0) (x:=y) rfl;rw[Nat.zero_mul,Nat.add_zero]at d0 d1;have HNE:=zq (show b1≠gx from by have h1_:=HLO.out _ rfl;have h2_:=HGX.out;dsimp only at h1_ h2_;omega);clear HLO HGX;have HYE:=zq (show edgeB t y.edge=true from(qbd.1 (by rw[HAY.out];exact List.mem_cons_self ..)).2.1);have HST:=zq (qfj HZZ.out.2 HZZ.out.1 HAY.out);have HYL:=zq (HLA.out y HYE.out);obtain⟨ly,hly⟩: ∃l,lenAt t y=l:=⟨_,rfl⟩
  rw[hly]at HST HYL;have HLY:=zq hly;obtain⟨ye,yr⟩:=y;dsimp only at d0 d1 HYE;have HD:=zq (show∀W,Below u0.heap.size u0 W->W.cell? ⟨b1,o1,none⟩=some (.int .i64 ye)from fun W hW=>(hW.cell (qah d0)).trans d0);clear hly;obtain⟨q2,hq2⟩:=geZ (q++[(⟨se,sr⟩:St3)]);rw[hq2]at HO;have HQ2:=zq hq2;clear hq2;go_upto_region 9 with fail;obtain⟨hN,hO,hC,h1,hBD⟩:=pushR (f:=stC) (k:=2) (e:=30) (w:=u0) 16 ⟨ye,yr⟩ #[.int .i64 ye,.bool yr] rfl rfl (qc0 _) HO.out HB.out.size (by have h1_:=HK.out;omega) (by omega);have HBW:=zq (show Below wa.heap.size wa (u0.alloc (.cells #[.int .i64 ye,.bool yr] 30))from HB.out.alloc HB.out.size _);have HLN2:=zq HO.out.2;have HGR:=zq HO.out;go_wp2_with (with_reducible refine qao (o:=⟨some 57,_,_,_,_,_⟩) rfl (.tmp 52) (.tmp 56) 35 rfl wa.heap.size 30 (.agg #[.int .i64 0,.bool false]) 2 16 Tryz.underlying35 qa6 ?hz2 (by decide) (some ⟨gx,0,none⟩) (k) x ((q2).flatMap stC) ?hs2 hO ⟨u0.heap.size,0,none⟩ 1 1 (stC ⟨ye,yr⟩) ?hx2 hN hC h1 hBD ?next2)
  all_goals try rfl
  intro X3 x3 u3 ho hg;have HO3:=zq (OwR.snoc HLN2.out ho.out);have HB3:=zq (qai HBW.out HBW.out.size hO.out (Nat.le_refl _) rfl hg.out);have HS3:=zq (show u3.cell? ⟨b1,o1,none⟩=some (.int .i64 ye)from hg.out.cell (HD.out _ (bA)) (fun h_=>HNE.out (by first|exact Option.some.inj h_|(simpa[Value.ownBlock]using h_))));clear ho hg hN hO hC h1 hBD HBW HLN2 d0 d1 HO HB HS1 HGR HD HNE;have hy2:0<=ye/\ye<t.edges.length:=by have h_:=HYE.out;unfold edgeB at h_;simpa using h_
  obtain⟨ey,hey⟩: ∃e:Nat,ye=e:=⟨ye.toNat,by omega⟩
  have hel:ey<t.edges.length:=by omega
  obtain⟨be2,oe2,hpa_,ce2⟩:=(HT.out u3 HB3.out).e.edge hel;have hlnY:t.edges.getD ey 0=ly:=by have h_:=HLY.out;unfold lenAt at h_;dsimp only at h_;rw[hey]at h_;simpa using h_
  rw[hlnY]at ce2;have c0:u3.cell? ⟨w.heap.size,0,none⟩=some (.slice (some ⟨be2,oe2,none⟩) t.edges.length a.ce):=by have h_:=(H0.out u3 HB3.out).cell 0;rw[<-hpa_];exact h_
  have s0:=HS3.out;subst hey;have y0:(0:Int)<=ey:=by omega
  have y1:(ey:Int)<t.edges.length:=by omega
  have HNX:=zq (show edgeB t (ey:Int)=true from HYE.out);clear hy2 hpa_ hlnY hel HYE HS3 HLY;obtain⟨l2,hl2⟩: ∃d,left-ly=d:=⟨_,rfl⟩
  have hw1:IntKind.i64.wrap (left-ly)=l2:=by rw[IntKind.wrap_i64];have h1_:=HYL.out;have h2_:=HSB.out.2;omega
  rw[hl2]at HST;have HL2:=zq (show -1000000<=l2/\l2<=1099511627776 from by have h1_:=HYL.out;have h2_:=HSB.out.2;have h3_:=HZZ.out;omega);have HQ3:=zq (show q2++qaW t (60-(k+1)) ⟨ey,yr⟩ l2=GL from by rw[<-HQ2.out,<-HQ.out,HST.out];simp);clear hl2 HST HQ;go_upto_region 10 with fail;go_quiet (fail);obtain⟨wd,hwd⟩:=geZ (u3.drewN nq);rw[hwd];have HO4:=zq (show OwR stC 2 30 wa.heap.size wd X3 (k+1) x3 (q2++[⟨ey,yr⟩])from by rw[<-hwd];exact HO3.out.draws _);have HB4:=zq (show Below wa.heap.size wa wd from by rw[<-hwd];exact qac HB3.out _);clear hwd HO3 HB3 hw1 c0 ce2 s0 y0 y1;go_wp2;go_roundg (k1-1)
  case measure=>have h1_:=HK.out;have h2_:=HZZ.out;omega
  case rel=>exact⟨k+1,X3,x3,q2,⟨ey,yr⟩,l2,by have:=HZZ.out;omega,by have h1_:=HK.out;have h2_:=HZZ.out;omega,rfl,rfl,zq (by rw[<-HQ2.out,List.length_append,<-HQL.out];rfl),HQ3,zq ⟨HNX.out,HL2.out⟩,HO4,HB4⟩
end
section
open Go.RowKit
theorem ret_pair {a b x:Int}(h:a=b):Ending.returned (.tuple #[.int .i64 a,.int .i64 x])= .returned (pair (b,x)):=by rw[h];rfl
theorem qdx (dm s:Int)(up:Bool)(w:World):
  Calls Tryz.prog 87 #[.int .i64 dm,.int .i64 s,.bool up] w fun e w'=>e= .returned (pair (qaY dm s up))/\w=w':=by
 have hu:=qcL s;have c:=unit_any s w;rw[qaY];generalize qaU s=u at*;have C:=zq c;clear c;by_cases h0:u=0
 ·subst h0
  rw[if_pos rfl];clear hu;go_enter Tryz.func87,Tryz.ntmps87;go_wp2_with fail;refine C.out.mono ?_;rintro e w' ⟨rfl,rfl⟩;go_wp2;go_ret2
  exact⟨rfl,rfl⟩
 ·rw[if_neg h0]
  by_cases hn:dm<0\/1099511627776<dm
  ·rw[if_pos hn]
   obtain h|⟨g,h⟩:dm<0\/(¬dm<0/\1099511627776<dm):=by omega
   ·clear hu hn
    go_enter Tryz.func87,Tryz.ntmps87;go_wp2_with fail;refine C.out.mono ?_;rintro e w' ⟨rfl,rfl⟩;go_wp2;go_ret2
    exact⟨rfl,rfl⟩
   ·clear hu hn
    go_enter Tryz.func87,Tryz.ntmps87;go_wp2_with fail;refine C.out.mono ?_;rintro e w' ⟨rfl,rfl⟩;go_wp2;go_ret2
    exact⟨rfl,rfl⟩
  ·rw[if_neg hn]
   obtain⟨h1,h2⟩: ¬dm<0/\ ¬1099511627776<dm:=by omega
   have q0:Int.tdiv dm u=dm/u:=Int.tdiv_eq_ediv_of_nonneg (by omega);have r0:Int.tmod dm u=dm %u:=Int.tmod_eq_emod_of_nonneg (by omega);obtain⟨q,hq⟩:=geZ (dm/u);obtain⟨r,hr⟩:=geZ (dm %u);have hq1:0<=q/\q<=1099511627776:=by
    rcases hu with rfl|rfl|rfl|rfl<;>omega
   have e1:wrap64 q=q:=IntWalk.wrap64_in _ (by omega);have e2:wrap64 (q+1)=q+1:=IntWalk.wrap64_in _ (by omega);have hr1:wrap64 r=r:=IntWalk.wrap64_in _ (by rcases hu with rfl|rfl|rfl|rfl<;>omega);rw[wholeOf,hq,hr];rw[hq]at q0;rw[hr]at r0;clear hu hn hq hr hq1
   cases up
   ·simp only[Bool.false_eq_true,false_and,if_false,Int.add_zero]
    by_cases hf:32766<q
    ·rw[if_pos hf]
     go_enter Tryz.func87,Tryz.ntmps87;go_wp2_with fail;refine C.out.mono ?_;rintro e w' ⟨rfl,rfl⟩;go_wp2;go_ret2
     exact⟨rfl,rfl⟩
    ·rw[if_neg hf]
     go_enter Tryz.func87,Tryz.ntmps87;go_wp2_with fail;refine C.out.mono ?_;rintro e w' ⟨rfl,rfl⟩;go_wp2;go_ret2
     exact⟨ret_pair e1,rfl⟩
   ·by_cases hz:r=0
    ·subst hz
     simp only[ne_eq,not_true,and_false,if_false,Int.add_zero];by_cases hf:32766<q
     ·rw[if_pos hf]
      go_enter Tryz.func87,Tryz.ntmps87;go_wp2_with fail;refine C.out.mono ?_;rintro e w' ⟨rfl,rfl⟩;go_wp2;go_ret2
      exact⟨rfl,rfl⟩
     ·rw[if_neg hf]
      go_enter Tryz.func87,Tryz.ntmps87;go_wp2_with fail;refine C.out.mono ?_;rintro e w' ⟨rfl,rfl⟩;go_wp2;go_ret2
      exact⟨ret_pair e1,rfl⟩
    ·have hz1:(r !=0)=true:=by simp[hz]
     simp only[ne_eq,hz,not_false_eq_true,and_self,if_true];by_cases hf:32766<q+1
     ·rw[if_pos hf]
      go_enter Tryz.func87,Tryz.ntmps87;go_wp2_with fail;refine C.out.mono ?_;rintro e w' ⟨rfl,rfl⟩;go_wp2;go_ret2
      exact⟨rfl,rfl⟩
     ·rw[if_neg hf]
      go_enter Tryz.func87,Tryz.ntmps87;go_wp2_with fail;refine C.out.mono ?_;rintro e w' ⟨rfl,rfl⟩;go_wp2;go_ret2
      exact⟨ret_pair e2,rfl⟩
end
section
open Go.RowKit
def qb9 (dm:Int)(s:Nat):Int:=
 if 3<=s then -1 else if(qaY dm s true).2=0 then s else qb9 dm (s+1)
termination_by 3-s
theorem qeB (dm:Int)(s:Nat)(h:3<=s):qb9 dm s= -1:=by rw[qb9,if_pos h]
theorem qcR (dm:Int)(s:Nat)(h:s<3):qb9 dm s=if(qaY dm s true).2=0 then(s:Int)else qb9 dm (s+1):=by rw[qb9,if_neg (by omega)]
theorem bestFrom_zero (dm:Int):qb9 dm 0=qdP dm:=by
 rw[qcR _ _ (by omega),qcR _ _ (by omega),qcR _ _ (by omega),qeB _ _ (by omega)]
 rfl
theorem best_any (dm:Int)(w:World):
  Calls Tryz.prog 29 #[.int .i64 dm] w fun e w'=>e= .returned (.int .i64 (qdP dm))/\w=w':=by
 rw[<-bestFrom_zero];obtain⟨B,hB⟩:=geZ (qb9 dm 0);rw[hB];have C:=zq (fun s=>qdx dm s true w);go_enter Tryz.func29,Tryz.ntmps29;go_wp2;go_loop [6] (fun i=> ∃k:Nat,k<=3/\i= .int .i64 k/\qb9 dm k=B) (fun i=>3-(intOf i).toNat)
 case atStart=>exact⟨0,by omega,rfl,hB⟩
 obtain⟨k,hk,rfl,hf⟩:=hrel;clear hB;by_cases hlt:k<3
 ·rw[qcR _ _ hlt]at hf
  have c:=C.out k;generalize qaY dm k true=R at*;obtain⟨n,x⟩:=R;by_cases hx:x=0
  ·rw[if_pos hx]at hf
   subst hf;subst hx;go_wp2_with fail;refine c.mono ?_;rintro e w' ⟨rfl,rfl⟩;simp only[pair];go_wp2;go_ret
   exact⟨rfl,rfl⟩
  ·rw[if_neg hx]at hf
   have HF:=zq hf;clear hf;have hx1:(x==0)=false:=by simp[hx]
   go_wp2_with fail;refine c.mono ?_;rintro e w' ⟨rfl,rfl⟩;simp only[pair];go_wp2;go_round
   case rel=>exact⟨k+1,by omega,by go_num,HF.out⟩
   case measure=>simp[intOf];omega
 ·rw[qeB _ _ (by omega)]at hf
  subst hf;go_wp2;go_ret
  exact⟨rfl,rfl⟩
end
section
open Go.RowKit
theorem ref_unit (s:Int)(w:World):
  Calls Tryz.prog 191 #[.int .i64 s] w fun e w'=>e= .returned (.int .i64 (qaU s))/\Below w.heap.size w w':=by
 have hb0:=(Below.refl w.heap.size w).alloc (Nat.le_refl _) (.cells #[.int .i64 1,.int .i64 10,.int .i64 100] 3);have HB:=zq hb0;clear hb0;by_cases h:s<0
 ·rw[show qaU s=0 by simp only[qaU];rw[if_neg (by omega),if_neg (by omega),if_neg (by omega)]]
  go_enter Tryz.func191,Tryz.ntmps191;go_wp2;go_ret
  exact⟨rfl,HB.out⟩
 ·by_cases h2:2<s
  ·rw[show qaU s=0 by simp only[qaU];rw[if_neg (by omega),if_neg (by omega),if_neg (by omega)]]
   go_enter Tryz.func191,Tryz.ntmps191;go_wp2;go_ret
   exact⟨rfl,HB.out⟩
  ·obtain rfl|rfl|rfl:s=0\/s=1\/s=2:=by omega
   ·rw[show qaU 0=1 from rfl]
    clear h h2;go_enter Tryz.func191,Tryz.ntmps191;go_wp2;go_ret
    exact⟨rfl,HB.out⟩
   ·rw[show qaU 1=10 from rfl]
    clear h h2;go_enter Tryz.func191,Tryz.ntmps191;go_wp2;go_ret
    exact⟨rfl,HB.out⟩
   ·rw[show qaU 2=100 from rfl]
    clear h h2;go_enter Tryz.func191,Tryz.ntmps191;go_wp2;go_ret
    exact⟨rfl,HB.out⟩
theorem ref_dm (n s:Int)(w:World):
  Calls Tryz.prog 137 #[.int .i64 n,.int .i64 s] w fun e w'=>e= .returned (pair (dmOf n s))/\Below w.heap.size w w':=by
 have hu:=qcL s;have c:=ref_unit s w;rw[dmOf];generalize qaU s=u at*;have C:=zq c;clear c;by_cases h0:u=0
 ·subst h0
  rw[if_pos rfl];clear hu;go_enter Tryz.func137,Tryz.ntmps137;go_wp2_with fail;refine(C.out).mono ?_;rintro e w' ⟨rfl,hb⟩;have HB:=zq hb;clear hb;go_wp2;go_ret2
  exact⟨rfl,HB.out⟩
 ·rw[if_neg h0]
  by_cases hn:n<0\/32766<n
  ·rw[if_pos hn]
   obtain h|⟨g,h⟩:n<0\/(¬n<0/\32766<n):=by omega
   ·clear hu hn
    go_enter Tryz.func137,Tryz.ntmps137;go_wp2_with fail;refine(C.out).mono ?_;rintro e w' ⟨rfl,hb⟩;have HB:=zq hb;clear hb;go_wp2;go_ret2
    exact⟨rfl,HB.out⟩
   ·clear hu hn
    go_enter Tryz.func137,Tryz.ntmps137;go_wp2_with fail;refine(C.out).mono ?_;rintro e w' ⟨rfl,hb⟩;have HB:=zq hb;clear hb;go_wp2;go_ret2
    exact⟨rfl,HB.out⟩
  ·rw[if_neg hn]
   obtain⟨h1,h2⟩: ¬n<0/\ ¬32766<n:=by omega
   have hb:0<=n*u/\n*u<=3276600:=by
    rcases hu with rfl|rfl|rfl|rfl<;>omega
   have hm:wrap64 (n*u)=n*u:=by simp only[wrap64];omega
   clear hu hn;go_enter Tryz.func137,Tryz.ntmps137;go_wp2_with fail;refine(C.out).mono ?_;rintro e w' ⟨rfl,hb⟩;have HB:=zq hb;clear hb;go_wp2;go_ret2
   exact⟨rfl,HB.out⟩
end
end Go.Proofs.YtahadmeilajdgaaGreatDoor
