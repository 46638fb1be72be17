/-
  Our own text, joined.
-/
import Derived.Test.YtahadmeilajdgaaGreatDoorMrap
import Derived.BigQuiet
import Derived.IntWalk
import Derived.Test.YtahadmeilajdgaaGreatDoorMraa
namespace Go.Proofs.YtahadmeilajdgaaGreatDoor
set_option maxRecDepth 100000
set_option maxHeartbeats 80000000
section
open Go.RowKit
open Go.Great
attribute [local go_sem] Oper.semAt_some
theorem step_push17 {P:Program}{ops:Array Oper}{o:Oper}{a:Act}{w:World}{K:Act->World->Prop}{Q:Exit->Act->World->Prop}{E:Prop}(hgd:o.guard=none)(s x:Operand)(t:TypeId)
  (ho:o.op= .call {callee:= .builtin .append,args:=#[s,x],argTypes:=#[t,t]})
  (base:Nat) (e:TypeId) (z:Value) (size bytes:Nat) (ht:P.underlying t=some (.slice e)) (hinfo:(P.info? e).map (fun i=>(i.zero,i.size,i.bytes))=some (some z,size,bytes))
  (hzs:z.cells.size=size) (hsz:0<size)
  (A:Option Addr) (n c:Nat) (xs:List Value) (hs:a.eval s= .slice A n c) (hown:Hid (w.ownsRow base e size (.slice A n c) n xs))
  (ad:Addr) (m cc:Nat) (news:List Value) (hx:a.eval x= .slice (some ad) m cc) (hl:Hid (news.length=m*size)) (hnews:Hid (∀j u,news[j]?=some u->w.cell? (ad.add j)=some u)) (h1:Hid (∀u∈news,u.oneCell'=true))
  (hb:Hid (n+m<=maxLen/\(n+m)*bytes<=140737488355328/\base<=w.heap.size))
  (h: ∀A' c' w',Hid (w'.ownsRow base e size (.slice A' (n+m) c') (n+m) (xs++news))->Hid (w.grownBy w' (Value.ownBlock (.slice A n c)))->Hid (Value.ownBlock (.slice A' (n+m) c')=Value.ownBlock (.slice A n c)\/Value.ownBlock (.slice A' (n+m) c')=some w.heap.size)->
   K (a.put o.dst (.slice A' (n+m) c')) w'):if Region.wanted o (yielded ops a.tmps)=true then Oper.wp P o a w K Q else E:=by
 have hw:Region.wanted o (yielded ops a.tmps)=true:=by simp[Region.wanted,hgd]
 rw[if_pos hw];obtain⟨i,hi,hz,hsize,hby⟩:=info_parts hinfo;obtain⟨v',w',hr,h2,h3,_,h5⟩:=run_append_own_at (P:=P) w base t o.type e i z size bytes ht hi hz hsize hby hzs hsz (.slice A n c) n xs hown.out ad m cc news hl.out hnews.out h1.out hb.out.1 hb.out.2.1 hb.out.2.2;obtain⟨A',c',rfl⟩:=qdi h2;unfold Oper.wp execOp;simp only[ho,resolve,invoke,builtin,Sem.run_bind,Sem.run_pure,Result.andThen_ok,List.map_toArray,List.map_cons,List.map_nil,hs,hx,hr];exact h A' c' w' h2 h3 h5
theorem qcj {P:Program}{ops:Array Oper}{o:Oper}{a:Act}{w:World}{K:Act->World->Prop}{Q:Exit->Act->World->Prop}{E:Prop}(hgd:o.guard=none)(s x:Operand)(t:TypeId)
  (ho:o.op= .call {callee:= .builtin .append,args:=#[s,x],argTypes:=#[t,t]})
  (base:Nat) (e:TypeId) (z:Value) (size bytes:Nat) (ht:P.underlying t=some (.slice e)) (hinfo:(P.info? e).map (fun i=>(i.zero,i.size,i.bytes))=some (some z,size,bytes))
  (hzs:z.cells.size=size) (hsz:0<size)
  (A:Option Addr) (n c:Nat) (xs:List Value) (hs:a.eval s= .slice A n c) (hown:Hid (w.ownsRow base e size (.slice A n c) n xs))
  (B:Option Addr) (m cc:Nat) (news:List Value) (hx:a.eval x= .slice B m cc) (hl:Hid (Sl w size B m cc news)) (h1:Hid (∀u∈news,u.oneCell'=true))
  (hb:Hid (n+m<=maxLen/\(n+m)*bytes<=140737488355328/\base<=w.heap.size))
  (h: ∀A' c' w',Hid (w'.ownsRow base e size (.slice A' (n+m) c') (n+m) (xs++news))->Hid (w.grownBy w' (Value.ownBlock (.slice A n c)))->Hid (Value.ownBlock (.slice A' (n+m) c')=Value.ownBlock (.slice A n c)\/Value.ownBlock (.slice A' (n+m) c')=some w.heap.size)->
   K (a.put o.dst (.slice A' (n+m) c')) w'):if Region.wanted o (yielded ops a.tmps)=true then Oper.wp P o a w K Q else E:=by
 cases B with
 |none=>
  obtain⟨rfl,rfl⟩:=hl.out.2.1 rfl;have e0:news=[]:=List.eq_nil_of_length_eq_zero (by simpa using hl.out.1);subst e0;have hw:Region.wanted o (yielded ops a.tmps)=true:=by simp[Region.wanted,hgd]
  rw[if_pos hw];obtain⟨i,hi,_⟩:=info_parts hinfo;have hr:=run_append_owned_none (P:=P) (w:=w) base t o.type e i size ht hi (.slice A n c) n xs hown.out;unfold Oper.wp execOp;simp only[ho,resolve,invoke,builtin,Sem.run_bind,Sem.run_pure,Result.andThen_ok,List.map_toArray,List.map_cons,List.map_nil,hs,hx,hr];exact h A c w (show Hid _ by simpa using hown) (qbB _ _) (show Hid _ from .inl rfl)
 |some ad=>
  exact step_push17 hgd s x t ho base e z size bytes ht hinfo hzs hsz A n c xs hs hown ad m cc news hx hl.out.1 (hl.out.2.2 ad rfl) h1 hb h
theorem beh_sub17 {path:List St3}{s:St3}: ∀y∈behS path s,y∈path:=by
 intro y hy;unfold behS at hy;split at hy
 ·unfold qeK at hy
  exact List.dropWhile_subset _ (List.mem_of_mem_drop hy)
 ·exact hy
theorem beh_len17 (path:List St3)(s:St3):(behS path s).length<=path.length:=by
 unfold behS;split
 ·unfold qeK
  rw[List.length_drop];have h:=(List.dropWhile_sublist (fun x=>!eqS x s) (l:=path)).length_le;omega
 ·exact Nat.le_refl _
theorem auth_edges17 {t:Tp3}{s:St3}{g:List St3}{c:List Lc3}(hc:qax t=0)(hg: ∀y∈g,edgeB t y.edge=true)(h: ∀x∈c,(qaR t x.route).isSome=true): ∀y∈g++authP t s c,edgeB t y.edge=true:=by
 intro y hy
 rcases List.mem_append.1 hy with hy|hy
 ·exact hg y hy
 ·obtain⟨k,hk,hy⟩:=List.mem_flatMap.1 hy
  exact qf2 hc h y (List.mem_flatMap.2 ⟨k,hk,beh_sub17 y hy⟩)
theorem qfV {t:Tp3}(hl:qaJ t=true)(s:St3)(c:List Lc3):(authP t s c).length<=100*c.length:=by
 induction c with
 |nil=>simp[authP]
 |cons k r ih=>
  have h1:=qbI hl k.route;have h2:=beh_len17 (pathR t k.route) s;unfold authP at ih⊢;rw[List.flatMap_cons,List.length_append,List.length_cons];omega
theorem take_snoc17 {c:List Lc3}{i:Nat}{k:Lc3}(h:c[i]?=some k):c.take (i+1)=c.take i++[k]:=by
 rw[List.take_add_one,h]
 rfl
theorem gap_snoc17 {t:Tp3}(c:List Lc3)(k:Lc3):gapC t (c++[k])=gapR t k.route:=by
 unfold gapC;rw[List.getLast?_append]
 rfl
theorem qga {g:Int}{l:List Sc3}(h:l≠[]):(lessB g l).length=l.length:=by
 unfold lessB;rw[List.length_append,List.length_dropLast,List.length_singleton];have:=List.length_pos_iff.2 h;omega
theorem less_flat17 {g:Int}{l:List Sc3}{s:Sc3}{n:Nat}(hn:l.length=n+1)(h:l[n]?=some s):(lessB g l).flatMap scC17=(l.flatMap scC17).set (n*2) (.int .i64 (s.to_-g)):=by
 have h1:l=l.take n++[s]:=by
  have h2:l.take (n+1)=l.take n++[s]:=by rw[List.take_add_one,h];rfl
  rw[<-h2,List.take_of_length_le (by omega)]
 have h3:l.dropLast=l.take n:=by rw[List.dropLast_eq_take,hn];rfl
 have h4:l.getLastD zeroS=s:=by rw[h1];simp
 have h5:((l.take n).flatMap scC17).length=n*2:=by rw[qbJ (f:=scC17) (k:=2) (fun _=>rfl),List.length_take,hn];congr 1;omega
 unfold lessB;rw[h3,h4]
 conv=>rhs;rw[h1]
 rw[List.flatMap_append,List.flatMap_append,List.set_append_right _ _ (by omega),h5,Nat.sub_self]
 rfl
theorem less_top17 {g M:Int}{l:List Sc3}(hl:l≠[])(hg:0<=g)(h: ∀s∈l,s.to_<=M): ∀s∈lessB g l,s.to_<=M:=by
 intro s hs;unfold lessB at hs
 rcases List.mem_append.1 hs with hs|hs
 ·exact h s (List.dropLast_subset _ hs)
 ·rw[List.mem_singleton]at hs
  subst hs;have h1:=h (l.getLastD zeroS) (by
   rw[List.getLastD_eq_getLast?,List.getLast?_eq_some_getLast hl];exact List.getLast_mem hl)
  show(l.getLastD zeroS).to_-g<=M
  omega
theorem route_gap17 {t:Tp3}(hc:qax t=0){id:Int}(h:(qaR t id).isSome=true):0<=gapR t id/\gapR t id<=100000000:=by
 obtain⟨z,z1,z2,z3⟩:=qcJ hc h;have z4:=qej z3;have z5:=qd8 z4.2.2.2.2.2.1;have z6:=(qcw (qaD hc).1 z5.2.2.1).2;have z7:gapR t id=z.gap:=by unfold gapR;rw[z1]
 have z8:lenN t z.path=sumT t z.path:=by unfold lenN;rw[if_pos z4.2.2.2.2.2.1]
 have z9:=z4.2.2.1;rw[z7];omega
theorem timerR_of17 {t:Tp3}{id:Int}:qfK t id=(qbd t id).timer:=by
 unfold qfK qbd
 cases qaR t id<;>rfl
theorem gapR_of17 {t:Tp3}{id:Int}:gapR t id=(qbd t id).gap:=by
 unfold gapR qbd
 cases qaR t id<;>rfl
theorem opauth_any (t:Tp3)(a:TpA)(l c:List Lc3)(train ref:Int)(rev:Bool)(n:Int)(x p:Ps3)(A:Option Addr)(cn cc:Nat)(w:World)(ht:TopR w t a)(hl:qaJ t=true)(hcj:t.joints.length<=a.cj)(hs:SlO lcC 3 w A cn cc c)(hcp:ChainP t l train (stepP x) c)(hc0:c≠[])(hc8:c.length<=8)(hloc:locE t ref rev 0=(p,0))(hw:walkE t p n=(x,0)):
  Calls Tryz.prog 57 #[.agg (tpC t a),.slice A cn cc,.int .i64 ref,.bool rev,.int .i64 n] w fun r w'=> ∃b,r= .returned (.agg (maC ⟨ref,rev,fullB t (goneL t p n) (stepP x) c,lessB (gapC t c) (rawB t (intoP t p) (goneL t p n) (stepP x) c),gapC t c⟩ b))/\MaR w' ⟨ref,rev,fullB t (goneL t p n) (stepP x) c,lessB (gapC t c) (rawB t (intoP t p) (goneL t p n) (stepP x) c),gapC t c⟩ b/\Below w.heap.size w w'/\OwR stC 2 30 w.heap.size w' b.ap (fullB t (goneL t p n) (stepP x) c).length b.cp (fullB t (goneL t p n) (stepP x) c)/\OwR scC17 2 66 w.heap.size w' b.aq (lessB (gapC t c) (rawB t (intoP t p) (goneL t p n) (stepP x) c)).length b.cs (lessB (gapC t c) (rawB t (intoP t p) (goneL t p n) (stepP x) c)):=by
 have HGK:=zq (gone_ok hw);have HCK:=zq HGK.out.1;have HOK:=zq (qaD HGK.out.1).1;have HIN:=zq (qcf HOK.out (qaQ.1 HGK.out.2.1).2);have HEN:=zq (qd0 HGK.out.2.1);have HL0:=zq (qa2 HOK.out (s:=stepP p) (qbu.1 (qaQ.1 HGK.out.2.1).2).1);obtain⟨hauth1,hauth2⟩:=auth_raw17 hcp (intoP t p) (goneL t p n) hc0;rw[<-hauth1,<-hauth2];have HSOM:=zq (qeO hcp);have HWK:=zq (fun W (hW:Below w.heap.size w W)=>opwalked_any t a p x n W (ht.under hW) hl hcj hw);have HRC:=zq (fun W (hW:Below w.heap.size w W) id=>qgi t a id W (ht.under hW) hl);have HTO:=zq (fun W (hW:Below w.heap.size w W) path A n c hp hn hed=>qfu t a path A n c W (ht.under hW) hp hn HOK.out hed);have HLO:=zq (fun W (hW:Below w.heap.size w W)=>qcg t a ref rev 0 W (ht.under hW) hl hcj);have HEO:=zq (fun W (hW:Below w.heap.size w W)=>qee t a p W (ht.under hW) hl hcj);rw[HEN.out]at HEO;rw[hloc]at HLO;obtain⟨I,hI⟩:=geZ (intoP t p);obtain⟨g,hg⟩:=geZ (goneL t p n);have HGP:=zq (show GoneP t p x n g/\g.length<=41 from by rw[<-hg];exact HGK.out.2.2.2.2);rw[hg]at HWK;rw[hI]at HIN HEO;rw[hI,hg];have HIB:=zq (show 0<=I/\I<=1000000 from by have h1_:=HIN.out;have h2_:=HL0.out;omega);obtain⟨gn,hgn⟩: ∃m,g.length=m:=⟨_,rfl⟩
 rw[hgn]at HWK;have HGN:=zq hgn;have HFR:=zq (show 1<=gn/\gn<=41/\g[gn-1]?=some (stepP x)from by
  obtain⟨pre,h1_,_⟩:=HGP.out.1.split;have h2_:=HGP.out.2;rw[h1_,List.length_append,List.length_singleton]at hgn;refine⟨by omega,by have:=HGN.out;omega,?_⟩;rw[h1_,show gn-1=pre.length by omega];simp)
 clear hcp hloc hw hauth1 hauth2 hI hg hgn HEN HL0 HIN;obtain⟨pe,pa,pr⟩:=p;obtain⟨s,hs_⟩:=geZ (stepP x);rw[hs_]at HFR⊢;clear hs_;obtain⟨PF,hPF⟩: ∃P,g++authP t s c=P:=⟨_,rfl⟩
 obtain⟨GF,hGF⟩: ∃G,gapC t c=G:=⟨_,rfl⟩
 obtain⟨LF,hLF⟩: ∃L,lessB GF (qb0 t I s g c)=L:=⟨_,rfl⟩
 rw[hPF,hGF,hLF];have HPF:=zq hPF;have HGF:=zq hGF;have HLF:=zq hLF;clear hPF hGF hLF;unfold psA at HWK HLO HEO;dsimp only at HWK HLO HEO;obtain⟨cn_,hcn_⟩: ∃m,c.length=m:=⟨_,rfl⟩
 obtain rfl:cn=cn_:=hs.1.symm.trans hcn_;have HCN:=zq (show c.length=cn/\1<=cn/\cn<=8 from⟨hcn_,by rw[<-hcn_];exact List.length_pos_iff.2 hc0,by omega⟩);have HC0:=zq hc0;clear hcn_ hc0 hc8;obtain⟨wa,hwa,hbwa,HWA,HBWA,h0,h1⟩:=bx2Z w 27 (tpC t a) 38 #[.int .i64 0,.bool false,.slice none 0 0,.slice none 0 0,.int .i64 0];have HT:=zq (fun W (hW:Below wa.heap.size wa W)=>(ht.under hbwa).under hW);have HLT:=zq hl;have H0:=zH h0;have H1:=zH h1;have HS:=zq (fun W (hW:Below wa.heap.size wa W)=>(hs.under hbwa).under hW);have HBZ:=zq (show w.heap.size<=wa.heap.size/\w.heap.size+1<wa.heap.size from⟨hbwa.size,h1.lt⟩);clear hwa hbwa h0 h1 ht hl hcj hs;go_enter Tryz.func57,Tryz.ntmps57;go_upto_region 1 with fail;rw[HWA.out];clear HWA;go_wp2_with (with_reducible refine ldZ 20 (H0.out wa (Below.refl _ _)) ?_);refine(HLO.out wa HBWA.out).mono ?_;rintro e_ w1 ⟨rfl,hb1⟩;have HB1:=zq hb1;clear hb1;go_upto_region 2 with fail;obtain⟨w2,hw2⟩:=geZ (w1.alloc (.cells #[.int .i64 pe,.int .i64 pa,.bool pr] 51));rw[hw2];have HB2:=zq (show Below wa.heap.size wa w2 from by rw[<-hw2];exact HB1.out.alloc HB1.out.size _);have hH:Has w2 w1.heap.size 51 #[.int .i64 pe,.int .i64 pa,.bool pr]:=by rw[<-hw2];exact Has.made _ _ _
 obtain⟨gP,hgP⟩: ∃g,w1.heap.size=g:=⟨_,rfl⟩
 have HGP2:=zq (show wa.heap.size<=gP from by rw[<-hgP];exact HB1.out.size);rw[hgP]at hH;simp only[hgP];have HHP:=zH hH;clear hw2 hH hgP HB1;go_wp2_with (first|(with_reducible refine ldZ 28 (H0.out w2 HB2.out) ?_)|(with_reducible refine ldZ 29 (HHP.out w2 (Below.refl _ _)) ?_));refine(HWK.out w2 (HBWA.out.trans (HB2.out.mono HBWA.out.size))).mono ?_;rintro e_ w3 ⟨X0,x0,rfl,ho3,hb3⟩;have HB3:=zq (show Below wa.heap.size wa w3/\Below w2.heap.size w2 w3 from⟨bu HB2.out hb3,hb3⟩);have HO3:=zq (ho3.to_base HB2.out.size);clear ho3 hb3;go_upto_region 3 with fail;obtain⟨w4,hw4⟩:=geZ (w3.alloc (.cells #[.int .i64 ref,.bool rev,.slice X0 gn x0,.slice none 0 0,.int .i64 0] 38))
 try rw[hw4]
 have hH:Has w4 w3.heap.size 38 #[.int .i64 ref,.bool rev,.slice X0 gn x0,.slice none 0 0,.int .i64 0]:=by rw[<-hw4];exact Has.made _ _ _
 have hb4:Below w3.heap.size w3 w4:=by rw[<-hw4];exact bA
 have hsz4:w4.heap.size=w3.heap.size+1:=by rw[<-hw4];simp
 obtain⟨gm,hgm⟩: ∃g,w3.heap.size=g:=⟨_,rfl⟩
 rw[hgm]at hH hsz4;simp only[hgm];have HM4:=zq hH;have HGM:=zq hgm;have HB4:=zq (show Below wa.heap.size wa w4/\Below w3.heap.size w3 w4 from⟨HB3.out.1.trans (hb4.mono HB3.out.1.size),hb4⟩);have HO4:=zq (HO3.out.under hb4);have HSZ4:=zq hsz4;obtain⟨gx,hgx,_,_⟩:=HO3.out.some (by have:=HFR.out;omega);subst hgx;obtain⟨k0_,k1_⟩:=qeN HO4.out HFR.out.2.2;obtain⟨xe,xr⟩:=s;dsimp only at k0_ k1_;have m2:w4.cell? ⟨gm,2,none⟩=some (.slice (some ⟨gx,0,none⟩) gn x0):=HM4.out.cell 2;have u0:=HFR.out.1;have u0b:=HFR.out.2.1;have u1:(0:Int)<=(gn:Int)-1:=by omega
 have u2:(gn:Int)-1<gn:=by omega
 have u3:(1:Int)<=(gn:Int):=by omega
 have u4:((gn:Int)-1).toNat=gn-1:=by omega
 clear hw4 hH hb4 hgm hsz4 HO3;go_upto_region 4 with fail;obtain⟨w5,hw5⟩: ∃u,w4.alloc (.cells #[.int .i64 xe,.bool xr] 30)=u:=⟨_,rfl⟩
 rw[hw5];have hH5:Has w5 w4.heap.size 30 #[.int .i64 xe,.bool xr]:=by rw[<-hw5];exact Has.made _ _ _
 have hb5:Below w4.heap.size w4 w5:=by rw[<-hw5];exact bA
 obtain⟨gfr,hgf⟩: ∃g,w4.heap.size=g:=⟨_,rfl⟩
 rw[hgf]at hH5;simp only[hgf];have HF5:=zq hH5;have HM5:=uH HM4 hb5;have HO5:=zq (HO4.out.under hb5);have HNE:=zq (show(Value.slice (some ⟨gx,0,none⟩) gn x0).ownBlock≠some gfr from by rw[<-hgf];exact HO4.out.ne (Nat.le_refl _));have HP5:=zq (HHP.out w5 ((HB3.out.2.trans (HB4.out.2.mono HB3.out.2.size)).trans (hb5.mono (HB3.out.2.trans (HB4.out.2.mono HB3.out.2.size)).size)));have HB5:=zq (show Below wa.heap.size wa w5/\Below w3.heap.size w3 w5 from⟨HB4.out.1.trans (hb5.mono HB4.out.1.size),HB4.out.2.trans (hb5.mono HB4.out.2.size)⟩);have HGG:=zq (show gfr=gm+1/\gm+2=w5.heap.size/\wa.heap.size<=gP/\gP<gm from⟨by rw[<-hgf];exact HSZ4.out,by rw[<-hw5];have h1_:=HSZ4.out;simp;omega,HGP2.out,by rw[<-HGM.out];exact(HHP.out w3 HB3.out.2).lt⟩);clear hw5 hH5 hb5 hgf HM4 HO4 HB4 HSZ4 HGM m2 u0 u0b u1 u2 u3 u4 k0_ k1_;go_wp2;go_loopg [43] cn (fun kk v43 wl=> ∃(i:Nat) (PX:Option Addr) (pn px:Nat) (SX:Option Addr) (sx:Nat) (G:Int),i<=cn/\cn-i<=kk/\v43= .int .i64 i/\Hid (G=gapC t (c.take i))/\Hid (Has wl gm 38 #[.int .i64 ref,.bool rev,.slice PX pn px,.slice SX i sx,.int .i64 G])/\Hid (Has wl gfr 30 #[.int .i64 xe,.bool xr])/\Hid ((Value.slice PX pn px).ownBlock≠some gfr)/\Hid (OwR stC 2 30 wa.heap.size wl PX pn px (g++authP t ⟨xe,xr⟩ (c.take i)))/\Hid (OwR scC17 2 66 wa.heap.size wl SX i sx (qb0 t I ⟨xe,xr⟩ g (c.take i)))/\Hid (∀y∈qb0 t I ⟨xe,xr⟩ g (c.take i),-1000000<=y.to_/\y.to_<=1000000000)/\Hid (Has wl gP 51 #[.int .i64 pe,.int .i64 pa,.bool pr])/\Hid (Below wa.heap.size wa wl))
 case atStart=>exact⟨0,_,gn,x0,none,0,0,by omega,by omega,rfl,zq rfl,HM5,HF5,HNE,zq (by show OwR _ _ _ _ _ _ _ _ (g++[]);rw[List.append_nil];exact HO5.out),zq (OwR.nil _ _ _ _ _),zq (fun y hy=>by cases hy),HP5,zq HB5.out.1⟩
 clear HM5 HF5 HNE HO5 HB5 HP5;obtain⟨i,PX,pn,px,SX,sx,G,hi,hik,rfl,HG,HM,HF,HNE,HPO,HSO,HTP,HP,HB⟩:=hrel;obtain⟨k1,hk1⟩: ∃k1,k1=gk:=⟨_,rfl⟩
 subst hk1;obtain⟨wv,hwv⟩: ∃wv,wv=wr:=⟨_,rfl⟩
 subst hwv;by_cases hlt:i<cn;rotate_left
 ·obtain rfl:i=cn:=by omega
  have x1: ¬(i:Int)<i:=by omega
  have htk:c.take i=c:=List.take_of_length_le (by rw[HCN.out.1];exact Nat.le_refl _);rw[htk]at HG HPO HSO HTP;obtain⟨k,hk⟩: ∃k,i=k+1:=⟨i-1,by have:=HCN.out;omega⟩
  subst hk;clear hik hi hlt htk;obtain⟨L,hL⟩:=geZ (qb0 t I ⟨xe,xr⟩ g c);rw[hL]at HSO HTP HLF;rw[HPF.out]at HPO;obtain rfl:G=GF:=HG.out.trans HGF.out;have hG2:=HGF.out;have HLL:=zq HSO.out.2;have HGB:=zq (show 0<=G/\G<=100000000 from by rw[<-hG2];unfold gapC;rw[List.getLast?_eq_some_getLast HC0.out];exact route_gap17 HCK.out (HSOM.out _ (List.getLast_mem _)));clear hL hG2;obtain⟨gs,hgs,hgl,_⟩:=HSO.out.some (by omega);subst hgs;obtain⟨z,hz⟩:=glZ L (k) (by rw[HLL.out];omega);have d0:=HSO.out.sl.at_cell (fun _=>rfl) (by decide) hz (i:=0) rfl;simp only[Nat.zero_add,Nat.add_zero]at d0;have f0:=HSO.out.thaw (k*2);dsimp only at f0;have hfl:=less_flat17 (g:=G) HLL.out hz;rw[HLF.out]at hfl;have HFL:=zq hfl;have HTZ:=zq (HTP.out z (List.mem_of_getElem? hz));have HTL:=zq (less_top17 (M:=9223372036854775807) (g:=G) (l:=L) (fun e=>by have h_:=HLL.out;rw[e]at h_;simp at h_) HGB.out.1 (fun y hy=>by have:=HTP.out y hy;omega));rw[HLF.out]at HTL;have HLN:=zq (show LF.length=k+1 from by rw[<-HLF.out,qga (fun e=>by have h_:=HLL.out;rw[e]at h_;simp at h_)];exact HLL.out);obtain⟨zt,zm⟩:=z;dsimp only at d0 HFL HTZ;skip;have m3:wv.cell? ⟨gm,3,none⟩=some (.slice (some ⟨gs,0,none⟩) (k+1) sx):=HM.out.cell 3;have m4:wv.cell? ⟨gm,4,none⟩=some (.int .i64 G):=HM.out.cell 4;obtain⟨D,hD⟩:=geZ (zt-G);rw[hD]at HFL;have hw2:IntKind.i64.wrap (zt-G)=D:=by rw[IntKind.wrap_i64];have h1_:=HTZ.out;have h2_:=HGB.out;omega
  have hw1:IntKind.i64.wrap (((k+1:Nat):Int)-1)=(k:Int):=by rw[IntKind.wrap_i64];have h1_:=HCN.out;omega
  have hk8:k<8:=by have:=HCN.out;omega
  have v1:(0:Int)<=(k:Int):=by omega
  have v2:(k:Int)<((k+1:Nat):Int):=by omega
  have v3:(k:Int).toNat=k:=by omega
  clear hD hz hfl;go_upto_region 12 with fail;go_region
  obtain⟨w12,hw12⟩: ∃u,(wv.setCell ⟨gs,k*2,none⟩ (.int .i64 D)).drew=u:=⟨_,rfl⟩
  rw[hw12];have hm12:Has w12 gm 38 #[.int .i64 ref,.bool rev,.slice PX pn px,.slice (some ⟨gs,0,none⟩) (k+1) sx,.int .i64 G]:=by rw[<-hw12];exact(HM.out.apart (p:=⟨gs,k*2,none⟩) (fun e=>HSO.out.apart HM.out (by decide) (by show some gs=some gm;rw[show gm=gs from e])) _).draw
  have HPO12:=zq (show OwR stC 2 30 wa.heap.size w12 PX pn px PF from by rw[<-hw12];exact(HPO.out.kept (qb9 (g:=gs) (p:=⟨gs,k*2,none⟩) (qbB _ _) rfl _) (OwR.two HPO.out HSO.out (by decide))).draw1);have HSO12:=zq (show OwR scC17 2 66 wa.heap.size w12 (some ⟨gs,0,none⟩) (k+1) sx LF from by rw[<-hw12];exact(HSO.out.set (l':=LF) HLN.out HFL.out).draw1);have HB12:=zq (show Below wa.heap.size wa w12 from by rw[<-hw12];exact qah (HB.out.setCell (p:=⟨gs,k*2,none⟩) hgl _));have HM12:=zq hm12;have HZ:=zq (H1.out w12 HB12.out);clear hw12 hm12 d0 f0 m3 m4 hw1 hw2 v1 v2 v3 hk8 HM HPO HSO HB hgl;have HR:=zq (qab HZ.out #[.int .i64 ref,.bool rev,.slice PX pn px,.slice (some ⟨gs,0,none⟩) (k+1) sx,.int .i64 G]);have HBF:=zq (qac (g:=w.heap.size+1) (HBWA.out.trans (HB12.out.mono HBWA.out.size)) (by omega) #[.int .i64 ref,.bool rev,.slice PX pn px,.slice (some ⟨gs,0,none⟩) (k+1) sx,.int .i64 G]);have HPOF:=zq (HPO12.out.kept (qaj w12 (w.heap.size+1) #[.int .i64 ref,.bool rev,.slice PX pn px,.slice (some ⟨gs,0,none⟩) (k+1) sx,.int .i64 G]) (.inr (HPO12.out.apart HZ.out (by decide))));have HSOF:=zq (HSO12.out.kept (qaj w12 (w.heap.size+1) #[.int .i64 ref,.bool rev,.slice PX pn px,.slice (some ⟨gs,0,none⟩) (k+1) sx,.int .i64 G]) (.inr (HSO12.out.apart HZ.out (by decide))));go_wp2_with (first|(with_reducible refine ldZ 96 HM12.out ?_)|(with_reducible refine stZ #[.int .i64 ref,.bool rev,.slice PX pn px,.slice (some ⟨gs,0,none⟩) (k+1) sx,.int .i64 G] HZ.out ?_));refine roZ HR.out ?_;have hpl_:PF.length=pn:=HPOF.out.2;have hsl_:LF.length=k+1:=HSOF.out.2;refine⟨⟨PX,px,some ⟨gs,0,none⟩,sx⟩,by unfold maC;dsimp only;rw[hpl_,hsl_],⟨?_,?_,?_,?_,HTL.out⟩,HBF.out,?_,?_⟩
  ·show SlO stC 2 _ PX PF.length px PF;rw[hpl_];exact HPOF.out.sl
  ·show SlO scC17 2 _ (some ⟨gs,0,none⟩) LF.length sx LF;rw[hsl_];exact HSOF.out.sl
  ·show PF.length<=px;rw[hpl_];exact HPOF.out.cap
  ·show LF.length<=sx;rw[hsl_];exact HSOF.out.cap
  ·show OwR stC 2 30 w.heap.size _ PX PF.length px PF;rw[hpl_];exact HPOF.out.to_base HBWA.out.size
  ·show OwR scC17 2 66 w.heap.size _ (some ⟨gs,0,none⟩) LF.length sx LF;rw[hsl_];exact HSOF.out.to_base HBWA.out.size
 obtain⟨y,hy⟩:=glZ c (i) (by rw[HCN.out.1];exact hlt);obtain⟨bk,off,rfl,d0,d1,d2⟩:=(HS.out wv HB.out).lock hy;have HTK:=zq (take_snoc17 hy);have HYS:=zq (HSOM.out y (List.mem_of_getElem? hy));have HAS:=zq (auth_snoc17 (t:=t) (b0:=I) (s:=⟨xe,xr⟩) (k:=y) (c:=c.take i) (g:=g));rw[<-HTK.out]at HAS;have HGS:=zq (show gapC t (c.take (i+1))=gapR t y.route from by rw[HTK.out];exact gap_snoc17 _ _);have x1:(i:Int)<cn:=by omega
 have x2:(0:Int)<=i:=by omega
 have HIN:=zq (show i<cn/\cn-i<=k1 from⟨hlt,hik⟩);clear hy hlt hik hi;have HEG:=zq (auth_edges17 (s:=⟨xe,xr⟩) HCK.out HGP.out.1.edges (c:=c.take (i+1)) (fun z hz=>HSOM.out z (List.mem_of_mem_take hz)));have HAF:=zq (qfV HLT.out ⟨xe,xr⟩ (c.take (i+1)));obtain⟨kr,kt,kn⟩:=y;dsimp only at d0 d1 d2 HYS HAS HGS;obtain⟨R_,hR_⟩: ∃r,qbd t kr=r:=⟨_,rfl⟩
 obtain⟨ri,rpath,rg,rt⟩:=R_;have HRR:=zq hR_;clear hR_;obtain⟨is_,his_⟩: ∃b,(qaR t kr).isSome=b:=⟨_,rfl⟩
 have HIS:=zq his_;clear his_;obtain⟨rn,hrn_⟩: ∃n,rpath.length=n:=⟨_,rfl⟩
 have HPN:=zq hrn_;clear hrn_;have HPE:=zq (show pathR t kr=rpath from by rw[pathR_of,HRR.out]);have HTE:=zq (show qfK t kr=rt from by rw[timerR_of17,HRR.out]);have HGE:=zq (show gapR t kr=rg from by rw[gapR_of17,HRR.out]);rw[HPE.out,HTE.out]at HAS;rw[HGE.out]at HGS;have HPF:=zq (show pn<=900 from by have h1_:=HPO.out.2;rw[List.length_append]at h1_;have h2_:=HGP.out.2;have h3_:=qfV HLT.out ⟨xe,xr⟩ (c.take i);have h4_:(c.take i).length<=8:=(by have h5_:=HCN.out;rw[List.length_take];omega);omega);obtain⟨bp,hbp⟩: ∃p,behS rpath ⟨xe,xr⟩=p:=⟨_,rfl⟩
 rw[hbp]at HAS;have HBP:=zq hbp;have HBL:=zq (show bp.length<=100 from by have h1_:=beh_len17 rpath ⟨xe,xr⟩;rw[hbp]at h1_;have h2_:=qbI HLT.out kr;rw[HPE.out]at h2_;omega);clear hbp;go_upto_region 7 with fail;obtain⟨w6,hw6⟩: ∃u,wv.alloc (.cells #[.int .i64 kr,.int .i64 kt,.int .i64 kn] 73)=u:=⟨_,rfl⟩
 rw[hw6];have hb6:Below wv.heap.size wv w6:=by rw[<-hw6];exact bA
 have hH6:Has w6 wv.heap.size 73 #[.int .i64 kr,.int .i64 kt,.int .i64 kn]:=by rw[<-hw6];exact Has.made _ _ _
 obtain⟨gk_,hgk_⟩: ∃g,wv.heap.size=g:=⟨_,rfl⟩
 rw[hgk_]at hH6;simp only[hgk_];have e0:w6.cell? ⟨gk_,0,none⟩=some (.int .i64 kr):=hH6.cell 0;have HB6:=zq (show Below wv.heap.size wv w6 from hb6);clear hw6 hb6 hH6 hgk_ d0 d1 d2 x1 x2;go_wp2_with (with_reducible refine ldZ 48 (H0.out w6 (HB.out.trans (HB6.out.mono HB.out.size))) ?_);refine(HRC.out w6 (HBWA.out.trans ((HB.out.trans (HB6.out.mono HB.out.size)).mono HBWA.out.size)) kr).mono ?_;rw[HRR.out,HIS.out];dsimp only;rw[HPN.out];rintro e_ w7 ⟨RA,rc,hsr,-,hrc,rfl,hb7⟩;unfold rtA;dsimp only;go_upto_region 8 with fail;obtain⟨w8,hw8⟩: ∃u,w7.alloc (.cells #[.int .i64 ri,.slice RA rn rc,.int .i64 rg,.int .i64 rt] 75)=u:=⟨_,rfl⟩
 have hH8:Has w8 w7.heap.size 75 #[.int .i64 ri,.slice RA rn rc,.int .i64 rg,.int .i64 rt]:=by rw[<-hw8];exact Has.made _ _ _
 have hb8:Below w7.heap.size w7 w8:=by rw[<-hw8];exact bA
 try rw[hw8]
 obtain⟨gr,hgr⟩: ∃g,w7.heap.size=g:=⟨_,rfl⟩
 have HBA:=zq (show Below wv.heap.size wv w8 from(bu HB6.out hb7).trans (hb8.mono (bu HB6.out hb7).size));have hq5:gfr<gr:=by have h1_:=(HF.out.under (bu HB6.out hb7) HF.out.lt).lt;omega
 rw[hgr]at hH8;simp only[hgr];have HSR:=zq (hsr.under hb8);have HRC_:=zq (show rn<=rc from hrc);have HR8:=zq hH8;have HM8:=zq (HM.out.under HBA.out HM.out.lt);have HF8:=zq (HF.out.under HBA.out HF.out.lt);have HP8:=zq (HP.out.under HBA.out HP.out.lt);have HPO8:=zq (HPO.out.under HBA.out);have HSO8:=zq (HSO.out.under HBA.out);have HB8:=zq (HB.out.trans (HBA.out.mono HB.out.size));have hq1:w.heap.size+1<wa.heap.size:=HBZ.out.2;have hq2:wa.heap.size<=gP:=HGG.out.2.2.1;have hq3:gP<gm:=HGG.out.2.2.2;have hq4:gm<gfr:=by have:=HGG.out.1;omega
 clear hw8 hH8 hb8 hgr hsr hrc hb7 e0 HB6 HBA HM HF HP HPO HSO HB;obtain⟨P0,hP0⟩: ∃l,g++authP t ⟨xe,xr⟩ (c.take i)=l:=⟨_,rfl⟩
 obtain⟨L0,hL0⟩: ∃l,qb0 t I ⟨xe,xr⟩ g (c.take i)=l:=⟨_,rfl⟩
 rw[hP0]at HPO8;rw[hL0]at HSO8 HTP HAS;have HP0:=zq hP0;obtain⟨bn,hbn⟩: ∃m,bp.length=m:=⟨_,rfl⟩
 rw[hbn]at HBL;have HBN:=zq hbn;clear hP0 hL0 hbn;go_cut [43] (fun s43 wx=>s43= .int .i64 i/\ ∃PX3 px3,Has wx gm 38 #[.int .i64 ref,.bool rev,.slice PX3 (pn+bn) px3,.slice SX i sx,.int .i64 G]/\Has wx gfr 30 #[.int .i64 xe,.bool xr]/\(Value.slice PX3 (pn+bn) px3).ownBlock≠some gfr/\OwR stC 2 30 wa.heap.size wx PX3 (pn+bn) px3 (P0++bp)/\OwR scC17 2 66 wa.heap.size wx SX i sx L0/\Has wx gr 75 #[.int .i64 ri,.slice RA rn rc,.int .i64 rg,.int .i64 rt]/\Has wx gP 51 #[.int .i64 pe,.int .i64 pa,.bool pr]/\Below wa.heap.size wa wx)
 case first=>
  refine wp_region_held_drew (S:=(fun W_=>(Has W_ (gr) 75 #[.int .i64 ri,.slice RA rn rc,.int .i64 rg,.int .i64 rt])/\(Has W_ (gfr) 30 #[.int .i64 xe,.bool xr])/\(Has W_ (gP) 51 #[.int .i64 pe,.int .i64 pa,.bool pr])/\(Below wa.heap.size wa W_))) (by kernel_rfl) ?_ (fun hHeld=>?_)
  ·exact⟨HR8.out.draw,HF8.out.draw,HP8.out.draw,qah HB8.out⟩
  have HM8:=zq HM8.out.draw;have HPO8:=zq HPO8.out.draw1;have HSO8:=zq HSO8.out.draw1;have HSR:=zq HSR.out.draw1;refine tkZ 0 54 (h:=?_);simp only[lyZ];refine tkZ 2 56 (h:=?_);simp only[lyZ];refine tqZ 3 57 (fun w_ ⟨s0,s1,s2,s3⟩=>(show w_.cell? ⟨gr,1,none⟩=some (.slice RA rn rc:Value)from s0.cell 1)) (h:=?_);simp only[lyZ];refine tlZ 4 58 gfr #[.int .i64 xe,.bool xr] (fun _ ⟨_,h_,_,_⟩=>h_) (h:=?_);simp only[lyZ];refine rdZ [1,5] (acZ (some 55) (fun K hK=>?za4) (acZ (some 59) (fun K hK=>?zb4) AllReadyH.nil))
  case' za4=>
   skip;obtain⟨s0,s1,s2,s3⟩:=hHeld;have q_:=HM8.out.cell 2;go_simp;clear q_;refine hK.out _ _ ?_ (fun hHeld=>?_)
   ·exact⟨s0,s1,s2,s3⟩
   clear hK K s0 s1 s2 s3
   try simp only[lyZ]
   refine aoZ 5 (some 59) (fun K hK=>?_);go_simp;obtain⟨s0,s1,s2,s3⟩:=hHeld;refine(qeX rpath ⟨xe,xr⟩ RA rn rc _ HSR.out HRC_.out (by have h1_:=qbI HLT.out kr;have h2_:=HPE.out;have h3_:=HPN.out;rw[h2_]at h1_;omega)).mono ?_;rw[HBP.out];rintro e_ q1 ⟨B,m,d,rfl,hsl_,hmd_,hb_⟩;obtain rfl:m=bn:=by rw[<-HBN.out];exact hsl_.1.symm
   have HM8:=uH HM8 hb_;have HPO8:=zq (HPO8.out.under hb_);have HSO8:=zq (HSO8.out.under hb_);have HSR:=zq (HSR.out.under hb_);have HSL:=zq (hsl_);go_wp2_with fail;refine hK.out _ _ ?_ (fun hHeld=>?_)
   ·exact⟨s0.u hb_,s1.u hb_,s2.u hb_,bu s3 hb_⟩
  case' zb4=>
   go_simp;obtain⟨s0,s1,s2,s3⟩:=hHeld;refine(qeX rpath ⟨xe,xr⟩ RA rn rc _ HSR.out HRC_.out (by have h1_:=qbI HLT.out kr;have h2_:=HPE.out;have h3_:=HPN.out;rw[h2_]at h1_;omega)).mono ?_;rw[HBP.out];rintro e_ q1 ⟨B,m,d,rfl,hsl_,hmd_,hb_⟩;obtain rfl:m=bn:=by rw[<-HBN.out];exact hsl_.1.symm
   have HM8:=uH HM8 hb_;have HPO8:=zq (HPO8.out.under hb_);have HSO8:=zq (HSO8.out.under hb_);have HSR:=zq (HSR.out.under hb_);have HSL:=zq (hsl_);go_wp2_with fail;refine hK.out _ _ ?_ (fun hHeld=>?_)
   ·exact⟨s0.u hb_,s1.u hb_,s2.u hb_,bu s3 hb_⟩
   clear hK K s0 s1 s2 s3
   try simp only[lyZ]
   refine aoZ 1 (some 55) (fun K hK=>?_);skip;obtain⟨s0,s1,s2,s3⟩:=hHeld;have q_:=HM8.out.cell 2;go_simp;clear q_;refine hK.out _ _ ?_ (fun hHeld=>?_)
   ·exact⟨s0,s1,s2,s3⟩
  all_goals
   clear hK K s0 s1 s2 s3
   try simp only[lyZ]
   refine aoZ 6 (some 60) (fun K hK=>?_);skip;obtain⟨s0,s1,s2,s3⟩:=hHeld;obtain⟨hO,hSL,h1,hBD⟩:=pourR 16 HPO8.out HSL.out qed s3.size (by have h1_:=HPF.out;have h2_:=HBL.out;omega) (by omega);refine qcj (o:=⟨some 60,_,_,_,_,_⟩) (by rfl) (.tmp 55) (.tmp 59) 35 (by rfl) wa.heap.size 30 (.agg #[.int .i64 0,.bool false]) 2 16 Tryz.underlying35 qce (by rfl) (by decide) PX pn px _ (by rfl) hO B m d _ (by rfl) hSL h1 hBD ?_;intro X3 x3 u3 ho hg h5;have HNE3:=zq (show(Value.slice X3 (pn+m) x3).ownBlock≠some gfr from by
    rcases h5.out with e|e
    ·rw[e];exact HNE.out
    ·rw[e];intro h_;injection h_ with h_;have:=s1.lt;omega)
   have hs0:=s0.grow hg.out (Ne.symm (HPO8.out.apart s0 (by decide)));have hs1:=s1.grow hg.out (Ne.symm HNE.out);have hs2:=s2.grow hg.out (Ne.symm (HPO8.out.apart s2 (by decide)));have hs3:=qas s3 s3.size hO.out (Nat.le_refl _) rfl hg.out;have HM8:=zq (HM8.out.grow hg.out (Ne.symm (HPO8.out.apart HM8.out (by decide))));have HSO8:=zq (HSO8.out.kept hg.out (OwR.two HSO8.out HPO8.out (by decide)));have HPO8:=zq (OwR.poured HPO8.out.2 HBN.out ho.out);refine hK.out _ _ ?_ (fun hHeld=>?_)
   ·exact⟨hs0,hs1,hs2,hs3⟩
   clear hK K s0 s1 s2 s3
   try simp only[lyZ]
   refine tkZ 7 61 (h:=?_);simp only[lyZ];refine aoZ 8 none (fun K hK=>?_);rw[if_pos (by rfl)];obtain⟨s0,s1,s2,s3⟩:=hHeld;refine qaN 35 _ _ rfl (gm) 2 (.slice X3 (pn+m) x3) (by rfl) (by rfl) 38 #[.int .i64 ref,.bool rev,.slice PX pn px,.slice SX i sx,.int .i64 G] HM8.out (Nat.le_of_ble_eq_true rfl) (by kernel_rfl) rfl #[.int .i64 ref,.bool rev,.slice X3 (pn+m) x3,.slice SX i sx,.int .i64 G] rfl ?_;have HPO8:=zq (HPO8.out.kept (qaj _ _ #[.int .i64 ref,.bool rev,.slice X3 (pn+m) x3,.slice SX i sx,.int .i64 G]) (.inr (HPO8.out.apart HM8.out (by decide))));have HSO8:=zq (HSO8.out.kept (qaj _ _ #[.int .i64 ref,.bool rev,.slice X3 (pn+m) x3,.slice SX i sx,.int .i64 G]) (.inr (HSO8.out.apart HM8.out (by decide))));refine hK.out _ _ ?_ (fun hHeld=>?_)
   ·exact⟨qae s0 (by omega) _,qae s1 (by omega) _,qae s2 (by omega) _,qac s3 (by omega) _⟩
   have HM8:=zq (qab HM8.out #[.int .i64 ref,.bool rev,.slice X3 (pn+m) x3,.slice SX i sx,.int .i64 G]);clear hK K s0 s1 s2 s3
   try simp only[Act.put]
   refine dnZ ?_;go_wp2_with fail;go_meet
   exact⟨rfl,X3,x3,HM8.out,hHeld.2.1,HNE3.out,HPO8.out,HSO8.out,hHeld.1,hHeld.2.2.1,hHeld.2.2.2⟩
 obtain⟨rfl,PX3,px3,hm_,hf_,hne_,hpo_,hso_,hr_,hp_,hb_⟩:=hcut;obtain⟨w9,hw9⟩: ∃u,u=wc:=⟨_,rfl⟩
 subst hw9;obtain⟨pn3,hpn3⟩: ∃m,pn+bn=m:=⟨_,rfl⟩
 obtain⟨P3,hP3⟩: ∃p,P0++bp=p:=⟨_,rfl⟩
 rw[hpn3]at hm_ hne_ hpo_;rw[hP3]at hpo_;have HP3:=zq (show g++authP t ⟨xe,xr⟩ (c.take (i+1))=P3 from by rw[HAS.out.2,<-List.append_assoc,HP0.out];exact hP3);rw[HP3.out]at HEG;skip;have HPN3:=zq (show pn3<=1000 from by have h1_:=HPF.out;have h2_:=HBL.out;omega);have HSM:=zq (qcw HOK.out HEG.out);have HPL:=zq hpo_.2;obtain⟨S,hS⟩:=geZ (sumT t P3);rw[hS,HPL.out]at HSM;have HSE:=zq hS;obtain⟨D,hD⟩:=geZ (S-I);have hw1:IntKind.i64.wrap (S-I)=D:=by rw[IntKind.wrap_i64];have h1_:=HSM.out;have h2_:=HIB.out;have h3_:=HPN3.out;omega
 have HW1:=zq hw1;have HDT:=zq (show -1000000<=D/\D<=1000000000 from by have h1_:=HSM.out;have h2_:=HIB.out;have h3_:=HPN3.out;omega);have HAN:=zq (show qb0 t I ⟨xe,xr⟩ g (c.take (i+1))=L0++[⟨D,rt⟩]from by rw[HAS.out.1,HP3.out,hS,hD]);have HTN:=zq (show∀y∈qb0 t I ⟨xe,xr⟩ g (c.take (i+1)),-1000000<=y.to_/\y.to_<=1000000000 from by rw[HAN.out];intro y hy;rcases List.mem_append.1 hy with hy|hy;exact HTP.out y hy;rw[List.mem_singleton]at hy;subst hy;exact HDT.out);have HM9:=zq hm_;have HF9:=zq hf_;have HNE9:=zq hne_;have HPO9:=zq hpo_;have HSO9:=zq hso_;have HR9:=zq hr_;have HP9:=zq hp_;have HB9:=zq hb_;clear hm_ hf_ hne_ hpo_ hso_ hr_ hp_ hb_ hpn3 hP3 hS hD hw1 HM8 HF8 HP8 HPO8 HSO8 HR8 HB8 HSR;go_upto_region 9 with fail;go_cut [43] (fun s43 wx=>s43= .int .i64 i/\ ∃SX3 sx3,Has wx gm 38 #[.int .i64 ref,.bool rev,.slice PX3 pn3 px3,.slice SX3 (i+1) sx3,.int .i64 G]/\Has wx gfr 30 #[.int .i64 xe,.bool xr]/\OwR stC 2 30 wa.heap.size wx PX3 pn3 px3 P3/\OwR scC17 2 66 wa.heap.size wx SX3 (i+1) sx3 (L0++[⟨D,rt⟩])/\Has wx gr 75 #[.int .i64 ri,.slice RA rn rc,.int .i64 rg,.int .i64 rt]/\Has wx gP 51 #[.int .i64 pe,.int .i64 pa,.bool pr]/\Below wa.heap.size wa wx)
 case first=>
  refine wp_region_held_drew (S:=(fun W_=>(Has W_ (w.heap.size) 27 (tpC t a))/\(W_.cell? ⟨gm,2,none⟩=some (.slice PX3 pn3 px3))/\(Has W_ (gr) 75 #[.int .i64 ri,.slice RA rn rc,.int .i64 rg,.int .i64 rt])/\(Has W_ (gP) 51 #[.int .i64 pe,.int .i64 pa,.bool pr])/\(Has W_ (gfr) 30 #[.int .i64 xe,.bool xr])/\(Below wa.heap.size wa W_))) (by kernel_rfl) ?_ (fun hHeld=>?_)
  ·exact⟨(H0.out _ HB9.out).draw,HM9.out.draw.cell 2,HR9.out.draw,HP9.out.draw,HF9.out.draw,qah HB9.out⟩
  have HM9:=zq HM9.out.draw;have HPO9:=zq HPO9.out.draw1;have HSO9:=zq HSO9.out.draw1;refine tkZ 0 62 (h:=?_);simp only[lyZ];refine tlZ 2 64 w.heap.size (tpC t a) (fun _ ⟨h_,_,_,_,_,_⟩=>h_) (h:=?_);simp only[lyZ];refine tkZ 3 65 (h:=?_);simp only[lyZ];refine tqZ 4 66 (fun w_ ⟨s0,s1,s2,s3,s4,s5⟩=>s1) (h:=?_);simp only[lyZ];refine tlZ 6 68 w.heap.size (tpC t a) (fun _ ⟨h_,_,_,_,_,_⟩=>h_) (h:=?_);simp only[lyZ];refine tlZ 7 69 gP #[.int .i64 pe,.int .i64 pa,.bool pr] (fun _ ⟨_,_,_,h_,_,_⟩=>h_) (h:=?_);simp only[lyZ];refine tkZ 10 72 (h:=?_);simp only[lyZ];refine tqZ 11 73 (fun w_ ⟨s0,s1,s2,s3,s4,s5⟩=>(show w_.cell? ⟨gr,3,none⟩=some (.int .i64 rt:Value)from s2.cell 3)) (h:=?_);simp only[lyZ];refine rdZ [1,5] ?_;refine acZ (some 63) (fun K hK=>?_) ?_
  ·skip
   obtain⟨s0,s1,s2,s3,s4,s5⟩:=hHeld;have q_:=HM9.out.cell 3;go_simp;clear q_;refine hK.out _ _ ?_ (fun hHeld=>?_)
   ·exact⟨s0,s1,s2,s3,s4,s5⟩
   clear hK K s0 s1 s2 s3 s4 s5
   try simp only[lyZ]
   refine aoZ 5 (some 67) (fun K hK=>?_);go_simp;obtain⟨s0,s1,s2,s3,s4,s5⟩:=hHeld;refine(HTO.out _ (bu HBWA.out s5) P3 PX3 pn3 px3 HPO9.out.sl (by have:=HPN3.out;omega) HEG.out).mono ?_;rw[HSE.out];rintro e_ q1 ⟨rfl,hb_⟩;have HM9:=uH HM9 hb_;have HPO9:=zq (HPO9.out.under hb_);have HSO9:=zq (HSO9.out.under hb_);go_wp2_with fail;refine hK.out _ _ ?_ (fun hHeld=>?_)
   ·exact⟨s0.u hb_,(hb_.cell (qag s1)).trans s1,s2.u hb_,s3.u hb_,s4.u hb_,bu s5 hb_⟩
   clear hK K s0 s1 s2 s3 s4 s5
   try simp only[lyZ]
   refine aoZ 8 (some 70) (fun K hK=>?_);go_simp;obtain⟨s0,s1,s2,s3,s4,s5⟩:=hHeld;refine(HEO.out _ (bu HBWA.out s5)).mono ?_;rintro e_ q2 ⟨rfl,hb2_⟩;have HM9:=uH HM9 hb2_;have HPO9:=zq (HPO9.out.under hb2_);have HSO9:=zq (HSO9.out.under hb2_);go_wp2_with fail;refine hK.out _ _ ?_ (fun hHeld=>?_)
   ·exact⟨s0.u hb2_,(hb2_.cell (qag s1)).trans s1,s2.u hb2_,s3.u hb2_,s4.u hb2_,bu s5 hb2_⟩
   clear hK K s0 s1 s2 s3 s4 s5
   try simp only[lyZ]
   refine tqZ 9 71 (fun w_ ⟨s0,s1,s2,s3,s4,s5⟩=>HW1.out) (h:=?_);simp only[lyZ];refine tkZ 12 74 (h:=?_);simp only[lyZ];refine aoZ 13 (some 75) (fun K hK=>?_);go_simp;obtain⟨s0,s1,s2,s3,s4,s5⟩:=hHeld;obtain⟨gl,hgl⟩:=geZ (q2.heap.size);have p0_gl:w.heap.size<gl:=by rw[<-hgl];exact s0.lt
   have p2_gl:gr<gl:=by rw[<-hgl];exact s2.lt
   have p3_gl:gP<gl:=by rw[<-hgl];exact s3.lt
   have p4_gl:gfr<gl:=by rw[<-hgl];exact s4.lt
   have p5_gl:wa.heap.size<=gl:=by rw[<-hgl];exact s5.size
   rw[hgl];refine hK.out _ _ ?_ (fun hHeld=>?_)
   ·exact⟨s0.beside _,((bA).cell (qag s1)).trans s1,s2.beside _,s3.beside _,s4.beside _,qao s5 _⟩
   have HNL:=zq (show(Value.slice SX i sx).ownBlock≠some gl from by rw[<-hgl];exact HSO9.out.ne (Nat.le_refl _));have HM9:=zq (HM9.out.beside (.cells #[.int .i64 D,.int .i64 rt] 66));have HPO9:=zq (HPO9.out.under ((Below.refl _ _).alloc (Nat.le_refl _) (.cells #[.int .i64 D,.int .i64 rt] 66)));have HSO9:=zq (HSO9.out.under ((Below.refl _ _).alloc (Nat.le_refl _) (.cells #[.int .i64 D,.int .i64 rt] 66)));refine qaw (T:=(fun W_=>(Has W_ (w.heap.size) 27 (tpC t a))/\(W_.cell? ⟨gm,2,none⟩=some (.slice PX3 pn3 px3))/\(Has W_ (gr) 75 #[.int .i64 ri,.slice RA rn rc,.int .i64 rg,.int .i64 rt])/\(Has W_ (gP) 51 #[.int .i64 pe,.int .i64 pa,.bool pr])/\(Has W_ (gfr) 30 #[.int .i64 xe,.bool xr])/\(Below wa.heap.size wa W_)/\(Has W_ (gl) 66 #[.int .i64 D,.int .i64 rt]))) (fun _ ⟨s0,s1,s2,s3,s4,s5,s6⟩=>⟨s0,s1,s2,s3,s4,s5⟩) ?_;have hHeld2:(fun W_=>(Has W_ (w.heap.size) 27 (tpC t a))/\(W_.cell? ⟨gm,2,none⟩=some (.slice PX3 pn3 px3))/\(Has W_ (gr) 75 #[.int .i64 ri,.slice RA rn rc,.int .i64 rg,.int .i64 rt])/\(Has W_ (gP) 51 #[.int .i64 pe,.int .i64 pa,.bool pr])/\(Has W_ (gfr) 30 #[.int .i64 xe,.bool xr])/\(Below wa.heap.size wa W_)/\(Has W_ (gl) 66 #[.int .i64 D,.int .i64 rt])) _:=⟨s0.beside _,((bA).cell (qag s1)).trans s1,s2.beside _,s3.beside _,s4.beside _,qao s5 _,(by rw[<-hgl];exact Has.made _ _ _)⟩
   clear hHeld;have hHeld:=hHeld2;clear hHeld2;clear hK K hgl s0 s1 s2 s3 s4 s5
   try simp only[lyZ]
   refine aoZ 14 (some 76) (fun K hK=>?_);skip;obtain⟨s0,s1,s2,s3,s4,s5,s6⟩:=hHeld;obtain⟨hO,hSL,h1,hBD⟩:=pourR 16 HSO9.out (⟨rfl,qa3 s6 rfl⟩:SlO scC17 2 _ (some ⟨gl,0,none⟩) 1 1 [⟨D,rt⟩]) qdy s5.size (by have h1_:=HIN.out;have h2_:=HCN.out;omega) (by omega);refine qcj (o:=⟨some 76,_,_,_,_,_⟩) (by rfl) (.tmp 63) (.tmp 75) 36 (by rfl) wa.heap.size 66 (.agg #[.int .i64 0,.int .i64 0]) 2 16 Tryz.underlying36 qbO (by rfl) (by decide) SX i sx _ (by rfl) hO (some ⟨gl,0,none⟩) 1 1 _ (by rfl) hSL h1 hBD ?_;intro X3 x3 u3 ho hg h5;have hs0:=s0.grow hg.out (Ne.symm (HSO9.out.apart s0 (by decide)));have hs1:=hg.out.cell s1 (Ne.symm (HSO9.out.apart HM9.out (by decide)));have hs2:=s2.grow hg.out (Ne.symm (HSO9.out.apart s2 (by decide)));have hs3:=s3.grow hg.out (Ne.symm (HSO9.out.apart s3 (by decide)));have hs4:=s4.grow hg.out (Ne.symm (HSO9.out.apart s4 (by decide)));have hs5:=qas s5 s5.size hO.out (Nat.le_refl _) rfl hg.out;have hs6:=s6.grow hg.out (Ne.symm HNL.out);have HM9:=zq (HM9.out.grow hg.out (Ne.symm (HSO9.out.apart HM9.out (by decide))));have HPO9:=zq (HPO9.out.kept hg.out (OwR.two HPO9.out HSO9.out (by decide)));have HSO9:=zq (OwR.poured (l':=[⟨D,rt⟩]) HSO9.out.2 rfl ho.out);refine hK.out _ _ ?_ (fun hHeld=>?_)
   ·exact⟨hs0,hs1,hs2,hs3,hs4,hs5,hs6⟩
   clear hK K s0 s1 s2 s3 s4 s5 s6
   try simp only[lyZ]
   refine tkZ 15 77 (h:=?_);simp only[lyZ];refine aoZ 16 none (fun K hK=>?_);rw[if_pos (by rfl)];obtain⟨s0,s1,s2,s3,s4,s5,s6⟩:=hHeld;refine qaN 36 _ _ rfl (gm) 3 (.slice X3 (i+1) x3) (by rfl) (by rfl) 38 #[.int .i64 ref,.bool rev,.slice PX3 pn3 px3,.slice SX i sx,.int .i64 G] HM9.out (Nat.le_of_ble_eq_true rfl) (by kernel_rfl) rfl #[.int .i64 ref,.bool rev,.slice PX3 pn3 px3,.slice X3 (i+1) x3,.int .i64 G] rfl ?_;have HPO9:=zq (HPO9.out.kept (qaj _ _ #[.int .i64 ref,.bool rev,.slice PX3 pn3 px3,.slice X3 (i+1) x3,.int .i64 G]) (.inr (HPO9.out.apart HM9.out (by decide))));have HSO9:=zq (HSO9.out.kept (qaj _ _ #[.int .i64 ref,.bool rev,.slice PX3 pn3 px3,.slice X3 (i+1) x3,.int .i64 G]) (.inr (HSO9.out.apart HM9.out (by decide))));refine hK.out _ _ ?_ (fun hHeld=>?_)
   ·exact⟨qae s0 (by omega) _,(qab HM9.out #[.int .i64 ref,.bool rev,.slice PX3 pn3 px3,.slice X3 (i+1) x3,.int .i64 G]).cell 2,qae s2 (by omega) _,qae s3 (by omega) _,qae s4 (by omega) _,qac s5 (by omega) _,qae s6 (by omega) _⟩
   have HM9:=zq (qab HM9.out #[.int .i64 ref,.bool rev,.slice PX3 pn3 px3,.slice X3 (i+1) x3,.int .i64 G]);clear hK K s0 s1 s2 s3 s4 s5 s6
   try simp only[Act.put]
   refine dnZ ?_;go_wp2_with fail;go_meet
   exact⟨rfl,X3,x3,HM9.out,hHeld.2.2.2.2.1,HPO9.out,HSO9.out,hHeld.2.2.1,hHeld.2.2.2.1,hHeld.2.2.2.2.2.1⟩
  refine acZ (some 67) (fun K hK=>?_) ?_
  ·go_simp
   obtain⟨s0,s1,s2,s3,s4,s5⟩:=hHeld;refine(HTO.out _ (bu HBWA.out s5) P3 PX3 pn3 px3 HPO9.out.sl (by have:=HPN3.out;omega) HEG.out).mono ?_;rw[HSE.out];rintro e_ q1 ⟨rfl,hb_⟩;have HM9:=uH HM9 hb_;have HPO9:=zq (HPO9.out.under hb_);have HSO9:=zq (HSO9.out.under hb_);go_wp2_with fail;refine hK.out _ _ ?_ (fun hHeld=>?_)
   ·exact⟨s0.u hb_,(hb_.cell (qag s1)).trans s1,s2.u hb_,s3.u hb_,s4.u hb_,bu s5 hb_⟩
   clear hK K s0 s1 s2 s3 s4 s5
   try simp only[lyZ]
   refine rdZ [1,8] ?_;refine acZ (some 63) (fun K hK=>?_) ?_
   ·skip
    obtain⟨s0,s1,s2,s3,s4,s5⟩:=hHeld;have q_:=HM9.out.cell 3;go_simp;clear q_;refine hK.out _ _ ?_ (fun hHeld=>?_)
    ·exact⟨s0,s1,s2,s3,s4,s5⟩
    clear hK K s0 s1 s2 s3 s4 s5
    try simp only[lyZ]
    refine aoZ 8 (some 70) (fun K hK=>?_);go_simp;obtain⟨s0,s1,s2,s3,s4,s5⟩:=hHeld;refine(HEO.out _ (bu HBWA.out s5)).mono ?_;rintro e_ q2 ⟨rfl,hb2_⟩;have HM9:=uH HM9 hb2_;have HPO9:=zq (HPO9.out.under hb2_);have HSO9:=zq (HSO9.out.under hb2_);go_wp2_with fail;refine hK.out _ _ ?_ (fun hHeld=>?_)
    ·exact⟨s0.u hb2_,(hb2_.cell (qag s1)).trans s1,s2.u hb2_,s3.u hb2_,s4.u hb2_,bu s5 hb2_⟩
    clear hK K s0 s1 s2 s3 s4 s5
    try simp only[lyZ]
    refine tqZ 9 71 (fun w_ ⟨s0,s1,s2,s3,s4,s5⟩=>HW1.out) (h:=?_);simp only[lyZ];refine tkZ 12 74 (h:=?_);simp only[lyZ];refine aoZ 13 (some 75) (fun K hK=>?_);go_simp;obtain⟨s0,s1,s2,s3,s4,s5⟩:=hHeld;obtain⟨gl,hgl⟩:=geZ (q2.heap.size);have p0_gl:w.heap.size<gl:=by rw[<-hgl];exact s0.lt
    have p2_gl:gr<gl:=by rw[<-hgl];exact s2.lt
    have p3_gl:gP<gl:=by rw[<-hgl];exact s3.lt
    have p4_gl:gfr<gl:=by rw[<-hgl];exact s4.lt
    have p5_gl:wa.heap.size<=gl:=by rw[<-hgl];exact s5.size
    rw[hgl];refine hK.out _ _ ?_ (fun hHeld=>?_)
    ·exact⟨s0.beside _,((bA).cell (qag s1)).trans s1,s2.beside _,s3.beside _,s4.beside _,qao s5 _⟩
    have HNL:=zq (show(Value.slice SX i sx).ownBlock≠some gl from by rw[<-hgl];exact HSO9.out.ne (Nat.le_refl _));have HM9:=zq (HM9.out.beside (.cells #[.int .i64 D,.int .i64 rt] 66));have HPO9:=zq (HPO9.out.under ((Below.refl _ _).alloc (Nat.le_refl _) (.cells #[.int .i64 D,.int .i64 rt] 66)));have HSO9:=zq (HSO9.out.under ((Below.refl _ _).alloc (Nat.le_refl _) (.cells #[.int .i64 D,.int .i64 rt] 66)));refine qaw (T:=(fun W_=>(Has W_ (w.heap.size) 27 (tpC t a))/\(W_.cell? ⟨gm,2,none⟩=some (.slice PX3 pn3 px3))/\(Has W_ (gr) 75 #[.int .i64 ri,.slice RA rn rc,.int .i64 rg,.int .i64 rt])/\(Has W_ (gP) 51 #[.int .i64 pe,.int .i64 pa,.bool pr])/\(Has W_ (gfr) 30 #[.int .i64 xe,.bool xr])/\(Below wa.heap.size wa W_)/\(Has W_ (gl) 66 #[.int .i64 D,.int .i64 rt]))) (fun _ ⟨s0,s1,s2,s3,s4,s5,s6⟩=>⟨s0,s1,s2,s3,s4,s5⟩) ?_;have hHeld2:(fun W_=>(Has W_ (w.heap.size) 27 (tpC t a))/\(W_.cell? ⟨gm,2,none⟩=some (.slice PX3 pn3 px3))/\(Has W_ (gr) 75 #[.int .i64 ri,.slice RA rn rc,.int .i64 rg,.int .i64 rt])/\(Has W_ (gP) 51 #[.int .i64 pe,.int .i64 pa,.bool pr])/\(Has W_ (gfr) 30 #[.int .i64 xe,.bool xr])/\(Below wa.heap.size wa W_)/\(Has W_ (gl) 66 #[.int .i64 D,.int .i64 rt])) _:=⟨s0.beside _,((bA).cell (qag s1)).trans s1,s2.beside _,s3.beside _,s4.beside _,qao s5 _,(by rw[<-hgl];exact Has.made _ _ _)⟩
    clear hHeld;have hHeld:=hHeld2;clear hHeld2;clear hK K hgl s0 s1 s2 s3 s4 s5
    try simp only[lyZ]
    refine aoZ 14 (some 76) (fun K hK=>?_);skip;obtain⟨s0,s1,s2,s3,s4,s5,s6⟩:=hHeld;obtain⟨hO,hSL,h1,hBD⟩:=pourR 16 HSO9.out (⟨rfl,qa3 s6 rfl⟩:SlO scC17 2 _ (some ⟨gl,0,none⟩) 1 1 [⟨D,rt⟩]) qdy s5.size (by have h1_:=HIN.out;have h2_:=HCN.out;omega) (by omega);refine qcj (o:=⟨some 76,_,_,_,_,_⟩) (by rfl) (.tmp 63) (.tmp 75) 36 (by rfl) wa.heap.size 66 (.agg #[.int .i64 0,.int .i64 0]) 2 16 Tryz.underlying36 qbO (by rfl) (by decide) SX i sx _ (by rfl) hO (some ⟨gl,0,none⟩) 1 1 _ (by rfl) hSL h1 hBD ?_;intro X3 x3 u3 ho hg h5;have hs0:=s0.grow hg.out (Ne.symm (HSO9.out.apart s0 (by decide)));have hs1:=hg.out.cell s1 (Ne.symm (HSO9.out.apart HM9.out (by decide)));have hs2:=s2.grow hg.out (Ne.symm (HSO9.out.apart s2 (by decide)));have hs3:=s3.grow hg.out (Ne.symm (HSO9.out.apart s3 (by decide)));have hs4:=s4.grow hg.out (Ne.symm (HSO9.out.apart s4 (by decide)));have hs5:=qas s5 s5.size hO.out (Nat.le_refl _) rfl hg.out;have hs6:=s6.grow hg.out (Ne.symm HNL.out);have HM9:=zq (HM9.out.grow hg.out (Ne.symm (HSO9.out.apart HM9.out (by decide))));have HPO9:=zq (HPO9.out.kept hg.out (OwR.two HPO9.out HSO9.out (by decide)));have HSO9:=zq (OwR.poured (l':=[⟨D,rt⟩]) HSO9.out.2 rfl ho.out);refine hK.out _ _ ?_ (fun hHeld=>?_)
    ·exact⟨hs0,hs1,hs2,hs3,hs4,hs5,hs6⟩
    clear hK K s0 s1 s2 s3 s4 s5 s6
    try simp only[lyZ]
    refine tkZ 15 77 (h:=?_);simp only[lyZ];refine aoZ 16 none (fun K hK=>?_);rw[if_pos (by rfl)];obtain⟨s0,s1,s2,s3,s4,s5,s6⟩:=hHeld;refine qaN 36 _ _ rfl (gm) 3 (.slice X3 (i+1) x3) (by rfl) (by rfl) 38 #[.int .i64 ref,.bool rev,.slice PX3 pn3 px3,.slice SX i sx,.int .i64 G] HM9.out (Nat.le_of_ble_eq_true rfl) (by kernel_rfl) rfl #[.int .i64 ref,.bool rev,.slice PX3 pn3 px3,.slice X3 (i+1) x3,.int .i64 G] rfl ?_;have HPO9:=zq (HPO9.out.kept (qaj _ _ #[.int .i64 ref,.bool rev,.slice PX3 pn3 px3,.slice X3 (i+1) x3,.int .i64 G]) (.inr (HPO9.out.apart HM9.out (by decide))));have HSO9:=zq (HSO9.out.kept (qaj _ _ #[.int .i64 ref,.bool rev,.slice PX3 pn3 px3,.slice X3 (i+1) x3,.int .i64 G]) (.inr (HSO9.out.apart HM9.out (by decide))));refine hK.out _ _ ?_ (fun hHeld=>?_)
    ·exact⟨qae s0 (by omega) _,(qab HM9.out #[.int .i64 ref,.bool rev,.slice PX3 pn3 px3,.slice X3 (i+1) x3,.int .i64 G]).cell 2,qae s2 (by omega) _,qae s3 (by omega) _,qae s4 (by omega) _,qac s5 (by omega) _,qae s6 (by omega) _⟩
    have HM9:=zq (qab HM9.out #[.int .i64 ref,.bool rev,.slice PX3 pn3 px3,.slice X3 (i+1) x3,.int .i64 G]);clear hK K s0 s1 s2 s3 s4 s5 s6
    try simp only[Act.put]
    refine dnZ ?_;go_wp2_with fail;go_meet
    exact⟨rfl,X3,x3,HM9.out,hHeld.2.2.2.2.1,HPO9.out,HSO9.out,hHeld.2.2.1,hHeld.2.2.2.1,hHeld.2.2.2.2.2.1⟩
   refine acZ (some 70) (fun K hK=>?_) ?_
   ·go_simp
    obtain⟨s0,s1,s2,s3,s4,s5⟩:=hHeld;refine(HEO.out _ (bu HBWA.out s5)).mono ?_;rintro e_ q2 ⟨rfl,hb2_⟩;have HM9:=uH HM9 hb2_;have HPO9:=zq (HPO9.out.under hb2_);have HSO9:=zq (HSO9.out.under hb2_);go_wp2_with fail;refine hK.out _ _ ?_ (fun hHeld=>?_)
    ·exact⟨s0.u hb2_,(hb2_.cell (qag s1)).trans s1,s2.u hb2_,s3.u hb2_,s4.u hb2_,bu s5 hb2_⟩
    clear hK K s0 s1 s2 s3 s4 s5
    try simp only[lyZ]
    refine tqZ 9 71 (fun w_ ⟨s0,s1,s2,s3,s4,s5⟩=>HW1.out) (h:=?_);simp only[lyZ];refine tkZ 12 74 (h:=?_);simp only[lyZ];refine rdZ [1,13] (acZ (some 63) (fun K hK=>?za5) (acZ (some 75) (fun K hK=>?zb5) AllReadyH.nil))
    case' za5=>
     skip;obtain⟨s0,s1,s2,s3,s4,s5⟩:=hHeld;have q_:=HM9.out.cell 3;go_simp;clear q_;refine hK.out _ _ ?_ (fun hHeld=>?_)
     ·exact⟨s0,s1,s2,s3,s4,s5⟩
     clear hK K s0 s1 s2 s3 s4 s5
     try simp only[lyZ]
     refine aoZ 13 (some 75) (fun K hK=>?_);go_simp;obtain⟨s0,s1,s2,s3,s4,s5⟩:=hHeld;obtain⟨gl,hgl⟩:=geZ (q2.heap.size);have p0_gl:w.heap.size<gl:=by rw[<-hgl];exact s0.lt
     have p2_gl:gr<gl:=by rw[<-hgl];exact s2.lt
     have p3_gl:gP<gl:=by rw[<-hgl];exact s3.lt
     have p4_gl:gfr<gl:=by rw[<-hgl];exact s4.lt
     have p5_gl:wa.heap.size<=gl:=by rw[<-hgl];exact s5.size
     rw[hgl];refine hK.out _ _ ?_ (fun hHeld=>?_)
     ·exact⟨s0.beside _,((bA).cell (qag s1)).trans s1,s2.beside _,s3.beside _,s4.beside _,qao s5 _⟩
     have HNL:=zq (show(Value.slice SX i sx).ownBlock≠some gl from by rw[<-hgl];exact HSO9.out.ne (Nat.le_refl _));have HM9:=zq (HM9.out.beside (.cells #[.int .i64 D,.int .i64 rt] 66));have HPO9:=zq (HPO9.out.under ((Below.refl _ _).alloc (Nat.le_refl _) (.cells #[.int .i64 D,.int .i64 rt] 66)));have HSO9:=zq (HSO9.out.under ((Below.refl _ _).alloc (Nat.le_refl _) (.cells #[.int .i64 D,.int .i64 rt] 66)));refine qaw (T:=(fun W_=>(Has W_ (w.heap.size) 27 (tpC t a))/\(W_.cell? ⟨gm,2,none⟩=some (.slice PX3 pn3 px3))/\(Has W_ (gr) 75 #[.int .i64 ri,.slice RA rn rc,.int .i64 rg,.int .i64 rt])/\(Has W_ (gP) 51 #[.int .i64 pe,.int .i64 pa,.bool pr])/\(Has W_ (gfr) 30 #[.int .i64 xe,.bool xr])/\(Below wa.heap.size wa W_)/\(Has W_ (gl) 66 #[.int .i64 D,.int .i64 rt]))) (fun _ ⟨s0,s1,s2,s3,s4,s5,s6⟩=>⟨s0,s1,s2,s3,s4,s5⟩) ?_;have hHeld2:(fun W_=>(Has W_ (w.heap.size) 27 (tpC t a))/\(W_.cell? ⟨gm,2,none⟩=some (.slice PX3 pn3 px3))/\(Has W_ (gr) 75 #[.int .i64 ri,.slice RA rn rc,.int .i64 rg,.int .i64 rt])/\(Has W_ (gP) 51 #[.int .i64 pe,.int .i64 pa,.bool pr])/\(Has W_ (gfr) 30 #[.int .i64 xe,.bool xr])/\(Below wa.heap.size wa W_)/\(Has W_ (gl) 66 #[.int .i64 D,.int .i64 rt])) _:=⟨s0.beside _,((bA).cell (qag s1)).trans s1,s2.beside _,s3.beside _,s4.beside _,qao s5 _,(by rw[<-hgl];exact Has.made _ _ _)⟩
     clear hHeld;have hHeld:=hHeld2;clear hHeld2;clear hK K hgl s0 s1 s2 s3 s4 s5
    case' zb5=>
     go_simp;obtain⟨s0,s1,s2,s3,s4,s5⟩:=hHeld;obtain⟨gl,hgl⟩:=geZ (q2.heap.size);have p0_gl:w.heap.size<gl:=by rw[<-hgl];exact s0.lt
     have p2_gl:gr<gl:=by rw[<-hgl];exact s2.lt
     have p3_gl:gP<gl:=by rw[<-hgl];exact s3.lt
     have p4_gl:gfr<gl:=by rw[<-hgl];exact s4.lt
     have p5_gl:wa.heap.size<=gl:=by rw[<-hgl];exact s5.size
     rw[hgl];refine hK.out _ _ ?_ (fun hHeld=>?_)
     ·exact⟨s0.beside _,((bA).cell (qag s1)).trans s1,s2.beside _,s3.beside _,s4.beside _,qao s5 _⟩
     have HNL:=zq (show(Value.slice SX i sx).ownBlock≠some gl from by rw[<-hgl];exact HSO9.out.ne (Nat.le_refl _));have HM9:=zq (HM9.out.beside (.cells #[.int .i64 D,.int .i64 rt] 66));have HPO9:=zq (HPO9.out.under ((Below.refl _ _).alloc (Nat.le_refl _) (.cells #[.int .i64 D,.int .i64 rt] 66)));have HSO9:=zq (HSO9.out.under ((Below.refl _ _).alloc (Nat.le_refl _) (.cells #[.int .i64 D,.int .i64 rt] 66)));refine qaw (T:=(fun W_=>(Has W_ (w.heap.size) 27 (tpC t a))/\(W_.cell? ⟨gm,2,none⟩=some (.slice PX3 pn3 px3))/\(Has W_ (gr) 75 #[.int .i64 ri,.slice RA rn rc,.int .i64 rg,.int .i64 rt])/\(Has W_ (gP) 51 #[.int .i64 pe,.int .i64 pa,.bool pr])/\(Has W_ (gfr) 30 #[.int .i64 xe,.bool xr])/\(Below wa.heap.size wa W_)/\(Has W_ (gl) 66 #[.int .i64 D,.int .i64 rt]))) (fun _ ⟨s0,s1,s2,s3,s4,s5,s6⟩=>⟨s0,s1,s2,s3,s4,s5⟩) ?_;have hHeld2:(fun W_=>(Has W_ (w.heap.size) 27 (tpC t a))/\(W_.cell? ⟨gm,2,none⟩=some (.slice PX3 pn3 px3))/\(Has W_ (gr) 75 #[.int .i64 ri,.slice RA rn rc,.int .i64 rg,.int .i64 rt])/\(Has W_ (gP) 51 #[.int .i64 pe,.int .i64 pa,.bool pr])/\(Has W_ (gfr) 30 #[.int .i64 xe,.bool xr])/\(Below wa.heap.size wa W_)/\(Has W_ (gl) 66 #[.int .i64 D,.int .i64 rt])) _:=⟨s0.beside _,((bA).cell (qag s1)).trans s1,s2.beside _,s3.beside _,s4.beside _,qao s5 _,(by rw[<-hgl];exact Has.made _ _ _)⟩
     clear hHeld;have hHeld:=hHeld2;clear hHeld2;clear hK K hgl s0 s1 s2 s3 s4 s5
     try simp only[lyZ]
     refine aoZ 1 (some 63) (fun K hK=>?_);skip;obtain⟨s0,s1,s2,s3,s4,s5,s6⟩:=hHeld;have q_:=HM9.out.cell 3;go_simp;clear q_;refine hK.out _ _ ?_ (fun hHeld=>?_)
     ·exact⟨s0,s1,s2,s3,s4,s5,s6⟩
     clear hK K s0 s1 s2 s3 s4 s5 s6
    all_goals
     try simp only[lyZ]
     refine aoZ 14 (some 76) (fun K hK=>?_);skip;obtain⟨s0,s1,s2,s3,s4,s5,s6⟩:=hHeld;obtain⟨hO,hSL,h1,hBD⟩:=pourR 16 HSO9.out (⟨rfl,qa3 s6 rfl⟩:SlO scC17 2 _ (some ⟨gl,0,none⟩) 1 1 [⟨D,rt⟩]) qdy s5.size (by have h1_:=HIN.out;have h2_:=HCN.out;omega) (by omega);refine qcj (o:=⟨some 76,_,_,_,_,_⟩) (by rfl) (.tmp 63) (.tmp 75) 36 (by rfl) wa.heap.size 66 (.agg #[.int .i64 0,.int .i64 0]) 2 16 Tryz.underlying36 qbO (by rfl) (by decide) SX i sx _ (by rfl) hO (some ⟨gl,0,none⟩) 1 1 _ (by rfl) hSL h1 hBD ?_;intro X3 x3 u3 ho hg h5;have hs0:=s0.grow hg.out (Ne.symm (HSO9.out.apart s0 (by decide)));have hs1:=hg.out.cell s1 (Ne.symm (HSO9.out.apart HM9.out (by decide)));have hs2:=s2.grow hg.out (Ne.symm (HSO9.out.apart s2 (by decide)));have hs3:=s3.grow hg.out (Ne.symm (HSO9.out.apart s3 (by decide)));have hs4:=s4.grow hg.out (Ne.symm (HSO9.out.apart s4 (by decide)));have hs5:=qas s5 s5.size hO.out (Nat.le_refl _) rfl hg.out;have hs6:=s6.grow hg.out (Ne.symm HNL.out);have HM9:=zq (HM9.out.grow hg.out (Ne.symm (HSO9.out.apart HM9.out (by decide))));have HPO9:=zq (HPO9.out.kept hg.out (OwR.two HPO9.out HSO9.out (by decide)));have HSO9:=zq (OwR.poured (l':=[⟨D,rt⟩]) HSO9.out.2 rfl ho.out);refine hK.out _ _ ?_ (fun hHeld=>?_)
     ·exact⟨hs0,hs1,hs2,hs3,hs4,hs5,hs6⟩
     clear hK K s0 s1 s2 s3 s4 s5 s6
     try simp only[lyZ]
     refine tkZ 15 77 (h:=?_);simp only[lyZ];refine aoZ 16 none (fun K hK=>?_);rw[if_pos (by rfl)];obtain⟨s0,s1,s2,s3,s4,s5,s6⟩:=hHeld;refine qaN 36 _ _ rfl (gm) 3 (.slice X3 (i+1) x3) (by rfl) (by rfl) 38 #[.int .i64 ref,.bool rev,.slice PX3 pn3 px3,.slice SX i sx,.int .i64 G] HM9.out (Nat.le_of_ble_eq_true rfl) (by kernel_rfl) rfl #[.int .i64 ref,.bool rev,.slice PX3 pn3 px3,.slice X3 (i+1) x3,.int .i64 G] rfl ?_;have HPO9:=zq (HPO9.out.kept (qaj _ _ #[.int .i64 ref,.bool rev,.slice PX3 pn3 px3,.slice X3 (i+1) x3,.int .i64 G]) (.inr (HPO9.out.apart HM9.out (by decide))));have HSO9:=zq (HSO9.out.kept (qaj _ _ #[.int .i64 ref,.bool rev,.slice PX3 pn3 px3,.slice X3 (i+1) x3,.int .i64 G]) (.inr (HSO9.out.apart HM9.out (by decide))));refine hK.out _ _ ?_ (fun hHeld=>?_)
     ·exact⟨qae s0 (by omega) _,(qab HM9.out #[.int .i64 ref,.bool rev,.slice PX3 pn3 px3,.slice X3 (i+1) x3,.int .i64 G]).cell 2,qae s2 (by omega) _,qae s3 (by omega) _,qae s4 (by omega) _,qac s5 (by omega) _,qae s6 (by omega) _⟩
     have HM9:=zq (qab HM9.out #[.int .i64 ref,.bool rev,.slice PX3 pn3 px3,.slice X3 (i+1) x3,.int .i64 G]);clear hK K s0 s1 s2 s3 s4 s5 s6
     try simp only[Act.put]
     refine dnZ ?_;go_wp2_with fail;go_meet
     exact⟨rfl,X3,x3,HM9.out,hHeld.2.2.2.2.1,HPO9.out,HSO9.out,hHeld.2.2.1,hHeld.2.2.2.1,hHeld.2.2.2.2.2.1⟩
   exact AllReadyH.nil
  exact AllReadyH.nil
 obtain⟨rfl,SX3,sx3,hm_,hf_,hpo_,hso_,hr_,hp_,hb_⟩:=hcut;obtain⟨w10,hw10⟩: ∃u,u=wc:=⟨_,rfl⟩
 subst hw10;have e2:w10.cell? ⟨gr,2,none⟩=some (.int .i64 rg):=hr_.cell 2;have HM10:=zq hm_;have HMN:=zq (qab hm_ #[.int .i64 ref,.bool rev,.slice PX3 pn3 px3,.slice SX3 (i+1) sx3,.int .i64 rg]);have HFN:=zq (qae (g:=gm) hf_ (by omega) #[.int .i64 ref,.bool rev,.slice PX3 pn3 px3,.slice SX3 (i+1) sx3,.int .i64 rg]);have HPN_:=zq (qae (g:=gm) hp_ (by omega) #[.int .i64 ref,.bool rev,.slice PX3 pn3 px3,.slice SX3 (i+1) sx3,.int .i64 rg]);have HPON:=zq (hpo_.kept (qaj w10 gm #[.int .i64 ref,.bool rev,.slice PX3 pn3 px3,.slice SX3 (i+1) sx3,.int .i64 rg]) (.inr (hpo_.apart hm_ (by decide))));have HSON:=zq (hso_.kept (qaj w10 gm #[.int .i64 ref,.bool rev,.slice PX3 pn3 px3,.slice SX3 (i+1) sx3,.int .i64 rg]) (.inr (hso_.apart hm_ (by decide))));have HBN_:=zq (show Below wa.heap.size wa (w10.setRow gm #[.int .i64 ref,.bool rev,.slice PX3 pn3 px3,.slice SX3 (i+1) sx3,.int .i64 rg])from qac hb_ (by omega) _);rw[<-HP3.out]at HPON;rw[<-HAN.out]at HSON;clear hm_ hf_ hpo_ hso_ hr_ hp_ hb_ HM9 HF9 HPO9 HSO9 HR9 HP9 HB9;go_wp2_with (with_reducible refine qal (o:=⟨none,_,_,_,_,_⟩) rfl 3 _ _ rfl (gm) 4 (.int .i64 rg) rfl rfl 38 #[.int .i64 ref,.bool rev,.slice PX3 pn3 px3,.slice SX3 (i+1) sx3,.int .i64 G] HM10.out (Nat.le_of_ble_eq_true rfl) (by kernel_rfl) rfl #[.int .i64 ref,.bool rev,.slice PX3 pn3 px3,.slice SX3 (i+1) sx3,.int .i64 rg] rfl ?_);go_roundg (k1-1)
 case measure=>have:=HIN.out;omega
 case rel=>exact⟨i+1,PX3,pn3,px3,SX3,sx3,rg,by have:=HIN.out;omega,by have:=HIN.out;omega,by first|go_num|(rw[IntWalk.wrap64_in _ (by have h1_:=HIN.out;have h2_:=HCN.out;omega)];go_num),zq HGS.out.symm,HMN,HFN,HNE9,HPON,HSON,HTN,HPN_,HBN_⟩
end
end Go.Proofs.YtahadmeilajdgaaGreatDoor
