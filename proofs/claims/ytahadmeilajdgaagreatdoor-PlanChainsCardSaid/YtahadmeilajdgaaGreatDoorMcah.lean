/-
  Our own text, joined.
-/
import Derived.Test.YtahadmeilajdgaaGreatDoorMcag
import Derived.BigQuiet
import Derived.IntWalk
import Derived.Test.YtahadmeilajdgaaGreatDoorMcaa
import Derived.Test.YtahadmeilajdgaaGreatDoorMcab
namespace Go.Proofs.YtahadmeilajdgaaGreatDoor
set_option maxRecDepth 100000
set_option maxHeartbeats 80000000
section
open Go.RowKit
open Go.Great
attribute [local go_sem] Oper.semAt_some
theorem step_push17 {P:Program}{ops:Array Oper}{o:Oper}{a:Act}{w:World}{K:Act->World->Prop}{Q:Exit->Act->World->Prop}{E:Prop}(hgd:o.guard=none)(s x:Operand)(t:TypeId)
  (ho:o.op= .call {callee:= .builtin .append,args:=#[s,x],argTypes:=#[t,t]})
  (base:Nat) (e:TypeId) (z:Value) (size bytes:Nat) (ht:P.underlying t=some (.slice e)) (hinfo:(P.info? e).map (fun i=>(i.zero,i.size,i.bytes))=some (some z,size,bytes))
  (hzs:z.cells.size=size) (hsz:0<size)
  (A:Option Addr) (n c:Nat) (xs:List Value) (hs:a.eval s= .slice A n c) (hown:Hid (w.ownsRow base e size (.slice A n c) n xs))
  (ad:Addr) (m cc:Nat) (news:List Value) (hx:a.eval x= .slice (some ad) m cc) (hl:Hid (news.length=m*size)) (hnews:Hid (∀j u,news[j]?=some u->w.cell? (ad.add j)=some u)) (h1:Hid (∀u∈news,u.oneCell'=true))
  (hb:Hid (n+m<=maxLen/\(n+m)*bytes<=140737488355328/\base<=w.heap.size))
  (h: ∀A' c' w',Hid (w'.ownsRow base e size (.slice A' (n+m) c') (n+m) (xs++news))->Hid (w.grownBy w' (Value.ownBlock (.slice A n c)))->Hid (Value.ownBlock (.slice A' (n+m) c')=Value.ownBlock (.slice A n c)\/Value.ownBlock (.slice A' (n+m) c')=some w.heap.size)->
   K (a.put o.dst (.slice A' (n+m) c')) w'):if Region.wanted o (yielded ops a.tmps)=true then Oper.wp P o a w K Q else E:=by
 have hw:Region.wanted o (yielded ops a.tmps)=true:=by simp[Region.wanted,hgd]
 rw[if_pos hw];obtain⟨i,hi,hz,hsize,hby⟩:=info_parts hinfo;obtain⟨v',w',hr,h2,h3,_,h5⟩:=run_append_own_at (P:=P) w base t o.type e i z size bytes ht hi hz hsize hby hzs hsz (.slice A n c) n xs hown.out ad m cc news hl.out hnews.out h1.out hb.out.1 hb.out.2.1 hb.out.2.2;obtain⟨A',c',rfl⟩:=own_shape h2;unfold Oper.wp execOp;simp only[ho,resolve,invoke,builtin,Sem.run_bind,Sem.run_pure,Result.andThen_ok,List.map_toArray,List.map_cons,List.map_nil,hs,hx,hr];exact h A' c' w' h2 h3 h5
theorem step_pour17 {P:Program}{ops:Array Oper}{o:Oper}{a:Act}{w:World}{K:Act->World->Prop}{Q:Exit->Act->World->Prop}{E:Prop}(hgd:o.guard=none)(s x:Operand)(t:TypeId)
  (ho:o.op= .call {callee:= .builtin .append,args:=#[s,x],argTypes:=#[t,t]})
  (base:Nat) (e:TypeId) (z:Value) (size bytes:Nat) (ht:P.underlying t=some (.slice e)) (hinfo:(P.info? e).map (fun i=>(i.zero,i.size,i.bytes))=some (some z,size,bytes))
  (hzs:z.cells.size=size) (hsz:0<size)
  (A:Option Addr) (n c:Nat) (xs:List Value) (hs:a.eval s= .slice A n c) (hown:Hid (w.ownsRow base e size (.slice A n c) n xs))
  (B:Option Addr) (m cc:Nat) (news:List Value) (hx:a.eval x= .slice B m cc) (hl:Hid (Sl w size B m cc news)) (h1:Hid (∀u∈news,u.oneCell'=true))
  (hb:Hid (n+m<=maxLen/\(n+m)*bytes<=140737488355328/\base<=w.heap.size))
  (h: ∀A' c' w',Hid (w'.ownsRow base e size (.slice A' (n+m) c') (n+m) (xs++news))->Hid (w.grownBy w' (Value.ownBlock (.slice A n c)))->Hid (Value.ownBlock (.slice A' (n+m) c')=Value.ownBlock (.slice A n c)\/Value.ownBlock (.slice A' (n+m) c')=some w.heap.size)->
   K (a.put o.dst (.slice A' (n+m) c')) w'):if Region.wanted o (yielded ops a.tmps)=true then Oper.wp P o a w K Q else E:=by
 cases B with
 |none=>
  obtain⟨rfl,rfl⟩:=hl.out.2.1 rfl;have e0:news=[]:=List.eq_nil_of_length_eq_zero (by simpa using hl.out.1);subst e0;have hw:Region.wanted o (yielded ops a.tmps)=true:=by simp[Region.wanted,hgd]
  rw[if_pos hw];obtain⟨i,hi,_⟩:=info_parts hinfo;have hr:=run_append_owned_none (P:=P) (w:=w) base t o.type e i size ht hi (.slice A n c) n xs hown.out;unfold Oper.wp execOp;simp only[ho,resolve,invoke,builtin,Sem.run_bind,Sem.run_pure,Result.andThen_ok,List.map_toArray,List.map_cons,List.map_nil,hs,hx,hr];exact h A c w (show Hid _ by simpa using hown) (only_refl _ _) (show Hid _ from .inl rfl)
 |some ad=>
  exact step_push17 hgd s x t ho base e z size bytes ht hinfo hzs hsz A n c xs hs hown ad m cc news hx hl.out.1 (hl.out.2.2 ad rfl) h1 hb h
theorem beh_sub17 {path:List St3}{s:St3}: ∀y∈behS path s,y∈path:=by
 intro y hy;unfold behS at hy;split at hy
 ·unfold afterS at hy
  exact List.dropWhile_subset _ (List.mem_of_mem_drop hy)
 ·exact hy
theorem beh_len17 (path:List St3)(s:St3):(behS path s).length<=path.length:=by
 unfold behS;split
 ·unfold afterS
  rw[List.length_drop];have h:=(List.dropWhile_sublist (fun x=>!eqS x s) (l:=path)).length_le;omega
 ·exact Nat.le_refl _
theorem auth_edges17 {t:Tp3}{s:St3}{g:List St3}{c:List Lc3}(hc:checkE t=0)(hg: ∀y∈g,edgeB t y.edge=true)(h: ∀x∈c,(routeF t x.route).isSome=true): ∀y∈g++authP t s c,edgeB t y.edge=true:=by
 intro y hy
 rcases List.mem_append.1 hy with hy|hy
 ·exact hg y hy
 ·obtain⟨k,hk,hy⟩:=List.mem_flatMap.1 hy
  exact edges_wayC hc h y (List.mem_flatMap.2 ⟨k,hk,beh_sub17 y hy⟩)
theorem auth_few17 {t:Tp3}(hl:lightT t=true)(s:St3)(c:List Lc3):(authP t s c).length<=100*c.length:=by
 induction c with
 |nil=>simp[authP]
 |cons k r ih=>
  have h1:=path_few17 hl k.route;have h2:=beh_len17 (pathR t k.route) s;unfold authP at ih⊢;rw[List.flatMap_cons,List.length_append,List.length_cons];omega
theorem take_snoc17 {c:List Lc3}{i:Nat}{k:Lc3}(h:c[i]?=some k):c.take (i+1)=c.take i++[k]:=by
 rw[List.take_add_one,h]
 rfl
theorem gap_snoc17 {t:Tp3}(c:List Lc3)(k:Lc3):gapC t (c++[k])=gapR t k.route:=by
 unfold gapC;rw[List.getLast?_append]
 rfl
theorem less_len17 {g:Int}{l:List Sc3}(h:l≠[]):(lessB g l).length=l.length:=by
 unfold lessB;rw[List.length_append,List.length_dropLast,List.length_singleton];have:=List.length_pos_iff.2 h;omega
theorem less_flat17 {g:Int}{l:List Sc3}{s:Sc3}{n:Nat}(hn:l.length=n+1)(h:l[n]?=some s):(lessB g l).flatMap scC17=(l.flatMap scC17).set (n*2) (.int .i64 (s.to_-g)):=by
 have h1:l=l.take n++[s]:=by
  have h2:l.take (n+1)=l.take n++[s]:=by rw[List.take_add_one,h];rfl
  rw[<-h2,List.take_of_length_le (by omega)]
 have h3:l.dropLast=l.take n:=by rw[List.dropLast_eq_take,hn];rfl
 have h4:l.getLastD zeroS=s:=by rw[h1];simp
 have h5:((l.take n).flatMap scC17).length=n*2:=by rw[flat_len (f:=scC17) (k:=2) (fun _=>rfl),List.length_take,hn];congr 1;omega
 unfold lessB;rw[h3,h4]
 conv=>rhs;rw[h1]
 rw[List.flatMap_append,List.flatMap_append,List.set_append_right _ _ (by omega),h5,Nat.sub_self]
 rfl
theorem less_top17 {g M:Int}{l:List Sc3}(hl:l≠[])(hg:0<=g)(h: ∀s∈l,s.to_<=M): ∀s∈lessB g l,s.to_<=M:=by
 intro s hs;unfold lessB at hs
 rcases List.mem_append.1 hs with hs|hs
 ·exact h s (List.dropLast_subset _ hs)
 ·rw[List.mem_singleton]at hs
  subst hs;have h1:=h (l.getLastD zeroS) (by
   rw[List.getLastD_eq_getLast?,List.getLast?_eq_some_getLast hl];exact List.getLast_mem hl)
  show(l.getLastD zeroS).to_-g<=M
  omega
theorem route_gap17 {t:Tp3}(hc:checkE t=0){id:Int}(h:(routeF t id).isSome=true):0<=gapR t id/\gapR t id<=100000000:=by
 obtain⟨z,z1,z2,z3⟩:=route_path hc h;have z4:=route_ok z3;have z5:=len_ok z4.2.2.2.2.2.1;have z6:=(sum_ok (check_routes hc).1 z5.2.2.1).2;have z7:gapR t id=z.gap:=by unfold gapR;rw[z1]
 have z8:lenN t z.path=sumT t z.path:=by unfold lenN;rw[if_pos z4.2.2.2.2.2.1]
 have z9:=z4.2.2.1;rw[z7];omega
theorem timerR_of17 {t:Tp3}{id:Int}:timerR t id=(routeR t id).timer:=by
 unfold timerR routeR
 cases routeF t id<;>rfl
theorem gapR_of17 {t:Tp3}{id:Int}:gapR t id=(routeR t id).gap:=by
 unfold gapR routeR
 cases routeF t id<;>rfl
theorem opauth_any (t:Tp3)(a:TpA)(l c:List Lc3)(train ref:Int)(rev:Bool)(n:Int)(x p:Ps3)(A:Option Addr)(cn cc:Nat)(w:World)(ht:TopR w t a)(hl:lightT t=true)(hcj:t.joints.length<=a.cj)(hs:SlO lcC 3 w A cn cc c)(hcp:ChainP t l train (stepP x) c)(hc0:c≠[])(hc8:c.length<=8)(hloc:locE t ref rev 0=(p,0))(hw:walkE t p n=(x,0)):
  Calls Tryz.prog 57 #[.agg (tpC t a),.slice A cn cc,.int .i64 ref,.bool rev,.int .i64 n] w fun r w'=> ∃b,r= .returned (.agg (maC ⟨ref,rev,fullB t (goneL t p n) (stepP x) c,lessB (gapC t c) (rawB t (intoP t p) (goneL t p n) (stepP x) c),gapC t c⟩ b))/\MaR w' ⟨ref,rev,fullB t (goneL t p n) (stepP x) c,lessB (gapC t c) (rawB t (intoP t p) (goneL t p n) (stepP x) c),gapC t c⟩ b/\Below w.heap.size w w'/\OwR stC 2 30 w.heap.size w' b.ap (fullB t (goneL t p n) (stepP x) c).length b.cp (fullB t (goneL t p n) (stepP x) c)/\OwR scC17 2 66 w.heap.size w' b.aq (lessB (gapC t c) (rawB t (intoP t p) (goneL t p n) (stepP x) c)).length b.cs (lessB (gapC t c) (rawB t (intoP t p) (goneL t p n) (stepP x) c)):=by
 have HGK:=zq (gone_ok hw);have HCK:=zq HGK.out.1;have HOK:=zq (check_routes HGK.out.1).1;have HIN:=zq (into_ok17 HOK.out (right_iff.1 HGK.out.2.1).2);have HEN:=zq (entered17 HGK.out.2.1);have HL0:=zq (lenAt_ok HOK.out (s:=stepP p) (on_iff.1 (right_iff.1 HGK.out.2.1).2).1);obtain⟨hauth1,hauth2⟩:=auth_raw17 hcp (intoP t p) (goneL t p n) hc0;rw[<-hauth1,<-hauth2];have HSOM:=zq (chain_some17 hcp);have HWK:=zq (fun W (hW:Below w.heap.size w W)=>opwalked_any t a p x n W (ht.under hW) hl hcj hw);have HRC:=zq (fun W (hW:Below w.heap.size w W) id=>otp_routeC t a id W (ht.under hW) hl);have HTO:=zq (fun W (hW:Below w.heap.size w W) path A n c hp hn hed=>optotal_any t a path A n c W (ht.under hW) hp hn HOK.out hed);have HLO:=zq (fun W (hW:Below w.heap.size w W)=>opl_locate0 t a ref rev 0 W (ht.under hW) hl hcj);have HEO:=zq (fun W (hW:Below w.heap.size w W)=>opent_any t a p W (ht.under hW) hl hcj);rw[HEN.out]at HEO;rw[hloc]at HLO;obtain⟨I,hI⟩:=geZ (intoP t p);obtain⟨g,hg⟩:=geZ (goneL t p n);have HGP:=zq (show GoneP t p x n g/\g.length<=41 from by rw[<-hg];exact HGK.out.2.2.2.2);rw[hg]at HWK;rw[hI]at HIN HEO;rw[hI,hg];have HIB:=zq (show 0<=I/\I<=1000000 from by have h1_:=HIN.out;have h2_:=HL0.out;omega);obtain⟨gn,hgn⟩: ∃m,g.length=m:=⟨_,rfl⟩
 rw[hgn]at HWK;have HGN:=zq hgn;have HFR:=zq (show 1<=gn/\gn<=41/\g[gn-1]?=some (stepP x)from by
  obtain⟨pre,h1_,_⟩:=HGP.out.1.split;have h2_:=HGP.out.2;rw[h1_,List.length_append,List.length_singleton]at hgn;refine⟨by omega,by have:=HGN.out;omega,?_⟩;rw[h1_,show gn-1=pre.length by omega];simp)
 clear hcp hloc hw hauth1 hauth2 hI hg hgn HEN HL0 HIN;obtain⟨pe,pa,pr⟩:=p;obtain⟨s,hs_⟩:=geZ (stepP x);rw[hs_]at HFR⊢;clear hs_;obtain⟨PF,hPF⟩: ∃P,g++authP t s c=P:=⟨_,rfl⟩
 obtain⟨GF,hGF⟩: ∃G,gapC t c=G:=⟨_,rfl⟩
 obtain⟨LF,hLF⟩: ∃L,lessB GF (authGo t I s g c)=L:=⟨_,rfl⟩
 rw[hPF,hGF,hLF];have HPF:=zq hPF;have HGF:=zq hGF;have HLF:=zq hLF;clear hPF hGF hLF;unfold psA at HWK HLO HEO;dsimp only at HWK HLO HEO;obtain⟨cn_,hcn_⟩: ∃m,c.length=m:=⟨_,rfl⟩
 obtain rfl:cn=cn_:=hs.1.symm.trans hcn_;have HCN:=zq (show c.length=cn/\1<=cn/\cn<=8 from⟨hcn_,by rw[<-hcn_];exact List.length_pos_iff.2 hc0,by omega⟩);have HC0:=zq hc0;clear hcn_ hc0 hc8;obtain⟨wa,hwa,hbwa,HWA,HBWA,h0,h1⟩:=bx2Z w 27 (tpC t a) 38 #[.int .i64 0,.bool false,.slice none 0 0,.slice none 0 0,.int .i64 0];have HT:=zq (fun W (hW:Below wa.heap.size wa W)=>(ht.under hbwa).under hW);have HLT:=zq hl;have H0:=zH h0;have H1:=zH h1;have HS:=zq (fun W (hW:Below wa.heap.size wa W)=>(hs.under hbwa).under hW);have HBZ:=zq (show w.heap.size<=wa.heap.size/\w.heap.size+1<wa.heap.size from⟨hbwa.size,h1.lt⟩);clear hwa hbwa h0 h1 ht hl hcj hs;go_enter Tryz.func57,Tryz.ntmps57;go_upto_region 1 with fail;rw[HWA.out];clear HWA;go_wp2_with (with_reducible refine ldZ 20 (H0.out wa (Below.refl _ _)) ?_);refine(HLO.out wa HBWA.out).mono ?_;rintro e_ w1 ⟨rfl,hb1⟩;have HB1:=zq hb1;clear hb1;go_upto_region 2 with fail;obtain⟨w2,hw2⟩:=geZ (w1.alloc (.cells #[.int .i64 pe,.int .i64 pa,.bool pr] 51));rw[hw2];have HB2:=zq (show Below wa.heap.size wa w2 from by rw[<-hw2];exact HB1.out.alloc HB1.out.size _);have hH:Has w2 w1.heap.size 51 #[.int .i64 pe,.int .i64 pa,.bool pr]:=by rw[<-hw2];exact Has.made _ _ _
 obtain⟨gP,hgP⟩: ∃g,w1.heap.size=g:=⟨_,rfl⟩
 have HGP2:=zq (show wa.heap.size<=gP from by rw[<-hgP];exact HB1.out.size);rw[hgP]at hH;simp only[hgP];have HHP:=zH hH;clear hw2 hH hgP HB1;go_wp2_with (first|(with_reducible refine ldZ 28 (H0.out w2 HB2.out) ?_)|(with_reducible refine ldZ 29 (HHP.out w2 (Below.refl _ _)) ?_));refine(HWK.out w2 (HBWA.out.trans (HB2.out.mono HBWA.out.size))).mono ?_;rintro e_ w3 ⟨X0,x0,rfl,ho3,hb3⟩;have HB3:=zq (show Below wa.heap.size wa w3/\Below w2.heap.size w2 w3 from⟨bu HB2.out hb3,hb3⟩);have HO3:=zq (ho3.to_base HB2.out.size);clear ho3 hb3;go_upto_region 3 with fail;obtain⟨w4,hw4⟩:=geZ (w3.alloc (.cells #[.int .i64 ref,.bool rev,.slice X0 gn x0,.slice none 0 0,.int .i64 0] 38))
 try rw[hw4]
 have hH:Has w4 w3.heap.size 38 #[.int .i64 ref,.bool rev,.slice X0 gn x0,.slice none 0 0,.int .i64 0]:=by rw[<-hw4];exact Has.made _ _ _
 have hb4:Below w3.heap.size w3 w4:=by rw[<-hw4];exact bA
 have hsz4:w4.heap.size=w3.heap.size+1:=by rw[<-hw4];simp
 obtain⟨gm,hgm⟩: ∃g,w3.heap.size=g:=⟨_,rfl⟩
 rw[hgm]at hH hsz4;simp only[hgm];have HM4:=zq hH;have HGM:=zq hgm;have HB4:=zq (show Below wa.heap.size wa w4/\Below w3.heap.size w3 w4 from⟨HB3.out.1.trans (hb4.mono HB3.out.1.size),hb4⟩);have HO4:=zq (HO3.out.under hb4);have HSZ4:=zq hsz4;obtain⟨gx,hgx,_,_⟩:=HO3.out.some (by have:=HFR.out;omega);subst hgx;obtain⟨k0_,k1_⟩:=cells_last17 HO4.out HFR.out.2.2;obtain⟨xe,xr⟩:=s;dsimp only at k0_ k1_;have m2:w4.cell? ⟨gm,2,none⟩=some (.slice (some ⟨gx,0,none⟩) gn x0):=HM4.out.cell 2;have u0:=HFR.out.1;have u0b:=HFR.out.2.1;have u1:(0:Int)<=(gn:Int)-1:=by omega
 have u2:(gn:Int)-1<gn:=by omega
 have u3:(1:Int)<=(gn:Int):=by omega
 have u4:((gn:Int)-1).toNat=gn-1:=by omega
 clear hw4 hH hb4 hgm hsz4 HO3;go_upto_region 4 with fail;obtain⟨w5,hw5⟩: ∃u,w4.alloc (.cells #[.int .i64 xe,.bool xr] 30)=u:=⟨_,rfl⟩
 rw[hw5];have hH5:Has w5 w4.heap.size 30 #[.int .i64 xe,.bool xr]:=by rw[<-hw5];exact Has.made _ _ _
 have hb5:Below w4.heap.size w4 w5:=by rw[<-hw5];exact bA
 obtain⟨gfr,hgf⟩: ∃g,w4.heap.size=g:=⟨_,rfl⟩
 rw[hgf]at hH5;simp only[hgf];have HF5:=zq hH5;have HM5:=uH HM4 hb5;have HO5:=zq (HO4.out.under hb5);have HNE:=zq (show(Value.slice (some ⟨gx,0,none⟩) gn x0).ownBlock≠some gfr from by rw[<-hgf];exact HO4.out.ne (Nat.le_refl _));have HP5:=zq (HHP.out w5 ((HB3.out.2.trans (HB4.out.2.mono HB3.out.2.size)).trans (hb5.mono (HB3.out.2.trans (HB4.out.2.mono HB3.out.2.size)).size)));have HB5:=zq (show Below wa.heap.size wa w5/\Below w3.heap.size w3 w5 from⟨HB4.out.1.trans (hb5.mono HB4.out.1.size),HB4.out.2.trans (hb5.mono HB4.out.2.size)⟩);have HGG:=zq (show gfr=gm+1/\gm+2=w5.heap.size/\wa.heap.size<=gP/\gP<gm from⟨by rw[<-hgf];exact HSZ4.out,by rw[<-hw5];have h1_:=HSZ4.out;simp;omega,HGP2.out,by rw[<-HGM.out];exact(HHP.out w3 HB3.out.2).lt⟩);clear hw5 hH5 hb5 hgf HM4 HO4 HB4 HSZ4 HGM m2 u0 u0b u1 u2 u3 u4 k0_ k1_;go_wp2;go_loopg [43] cn (fun kk v43 wl=> ∃(i:Nat) (PX:Option Addr) (pn px:Nat) (SX:Option Addr) (sx:Nat) (G:Int),i<=cn/\cn-i<=kk/\v43= .int .i64 i/\Hid (G=gapC t (c.take i))/\Hid (Has wl gm 38 #[.int .i64 ref,.bool rev,.slice PX pn px,.slice SX i sx,.int .i64 G])/\Hid (Has wl gfr 30 #[.int .i64 xe,.bool xr])/\Hid ((Value.slice PX pn px).ownBlock≠some gfr)/\Hid (OwR stC 2 30 wa.heap.size wl PX pn px (g++authP t ⟨xe,xr⟩ (c.take i)))/\Hid (OwR scC17 2 66 wa.heap.size wl SX i sx (authGo t I ⟨xe,xr⟩ g (c.take i)))/\Hid (∀y∈authGo t I ⟨xe,xr⟩ g (c.take i),-1000000<=y.to_/\y.to_<=1000000000)/\Hid (Has wl gP 51 #[.int .i64 pe,.int .i64 pa,.bool pr])/\Hid (Below wa.heap.size wa wl))
 case atStart=>exact⟨0,_,gn,x0,none,0,0,by omega,by omega,rfl,zq rfl,HM5,HF5,HNE,zq (by show OwR _ _ _ _ _ _ _ _ (g++[]);rw[List.append_nil];exact HO5.out),zq (OwR.nil _ _ _ _ _),zq (fun y hy=>by cases hy),HP5,zq HB5.out.1⟩
 clear HM5 HF5 HNE HO5 HB5 HP5;obtain⟨i,PX,pn,px,SX,sx,G,hi,hik,rfl,HG,HM,HF,HNE,HPO,HSO,HTP,HP,HB⟩:=hrel;obtain⟨k1,hk1⟩: ∃k1,k1=gk:=⟨_,rfl⟩
 subst hk1;obtain⟨wv,hwv⟩: ∃wv,wv=wr:=⟨_,rfl⟩
 subst hwv;by_cases hlt:i<cn;rotate_left
 ·obtain rfl:i=cn:=by omega
  have x1: ¬(i:Int)<i:=by omega
  have htk:c.take i=c:=List.take_of_length_le (by rw[HCN.out.1];exact Nat.le_refl _);rw[htk]at HG HPO HSO HTP;obtain⟨k,hk⟩: ∃k,i=k+1:=⟨i-1,by have:=HCN.out;omega⟩
  subst hk;clear hik hi hlt htk;obtain⟨L,hL⟩:=geZ (authGo t I ⟨xe,xr⟩ g c);rw[hL]at HSO HTP HLF;rw[HPF.out]at HPO;obtain rfl:G=GF:=HG.out.trans HGF.out;have hG2:=HGF.out;have HLL:=zq HSO.out.2;have HGB:=zq (show 0<=G/\G<=100000000 from by rw[<-hG2];unfold gapC;rw[List.getLast?_eq_some_getLast HC0.out];exact route_gap17 HCK.out (HSOM.out _ (List.getLast_mem _)));clear hL hG2;obtain⟨gs,hgs,hgl,_⟩:=HSO.out.some (by omega);subst hgs;obtain⟨z,hz⟩:=glZ L (k) (by rw[HLL.out];omega);have d0:=HSO.out.sl.at_cell (fun _=>rfl) (by decide) hz (i:=0) rfl;simp only[Nat.zero_add,Nat.add_zero]at d0;have f0:=HSO.out.thaw (k*2);dsimp only at f0;have hfl:=less_flat17 (g:=G) HLL.out hz;rw[HLF.out]at hfl;have HFL:=zq hfl;have HTZ:=zq (HTP.out z (List.mem_of_getElem? hz));have HTL:=zq (less_top17 (M:=9223372036854775807) (g:=G) (l:=L) (fun e=>by have h_:=HLL.out;rw[e]at h_;simp at h_) HGB.out.1 (fun y hy=>by have:=HTP.out y hy;omega));rw[HLF.out]at HTL;have HLN:=zq (show LF.length=k+1 from by rw[<-HLF.out,less_len17 (fun e=>by have h_:=HLL.out;rw[e]at h_;simp at h_)];exact HLL.out);obtain⟨zt,zm⟩:=z;dsimp only at d0 HFL HTZ;skip;have m3:wv.cell? ⟨gm,3,none⟩=some (.slice (some ⟨gs,0,none⟩) (k+1) sx):=HM.out.cell 3;have m4:wv.cell? ⟨gm,4,none⟩=some (.int .i64 G):=HM.out.cell 4;obtain⟨D,hD⟩:=geZ (zt-G);rw[hD]at HFL;have hw2:IntKind.i64.wrap (zt-G)=D:=by rw[IntKind.wrap_i64];have h1_:=HTZ.out;have h2_:=HGB.out;omega
  have hw1:IntKind.i64.wrap (((k+1:Nat):Int)-1)=(k:Int):=by rw[IntKind.wrap_i64];have h1_:=HCN.out;omega
  have hk8:k<8:=by have:=HCN.out;omega
  have v1:(0:Int)<=(k:Int):=by omega
  have v2:(k:Int)<((k+1:Nat):Int):=by omega
  have v3:(k:Int).toNat=k:=by omega
  clear hD hz hfl;go_upto_region 12 with fail;go_region
  obtain⟨w12,hw12⟩: ∃u,(wv.setCell ⟨gs,k*2,none⟩ (.int .i64 D)).drew=u:=⟨_,rfl⟩
  rw[hw12];have hm12:Has w12 gm 38 #[.int .i64 ref,.bool rev,.slice PX pn px,.slice (some ⟨gs,0,none⟩) (k+1) sx,.int .i64 G]:=by rw[<-hw12];exact(HM.out.apart (p:=⟨gs,k*2,none⟩) (fun e=>HSO.out.apart HM.out (by decide) (by show some gs=some gm;rw[show gm=gs from e])) _).draw
  have HPO12:=zq (show OwR stC 2 30 wa.heap.size w12 PX pn px PF from by rw[<-hw12];exact(HPO.out.kept (only_store (g:=gs) (p:=⟨gs,k*2,none⟩) (only_refl _ _) rfl _) (OwR.two HPO.out HSO.out (by decide))).draw1);have HSO12:=zq (show OwR scC17 2 66 wa.heap.size w12 (some ⟨gs,0,none⟩) (k+1) sx LF from by rw[<-hw12];exact(HSO.out.set (l':=LF) HLN.out HFL.out).draw1);have HB12:=zq (show Below wa.heap.size wa w12 from by rw[<-hw12];exact below_dr11 (HB.out.setCell (p:=⟨gs,k*2,none⟩) hgl _));have HM12:=zq hm12;have HZ:=zq (H1.out w12 HB12.out);clear hw12 hm12 d0 f0 m3 m4 hw1 hw2 v1 v2 v3 hk8 HM HPO HSO HB hgl;have HR:=zq (has_row11 HZ.out #[.int .i64 ref,.bool rev,.slice PX pn px,.slice (some ⟨gs,0,none⟩) (k+1) sx,.int .i64 G]);have HBF:=zq (below_row (g:=w.heap.size+1) (HBWA.out.trans (HB12.out.mono HBWA.out.size)) (by omega) #[.int .i64 ref,.bool rev,.slice PX pn px,.slice (some ⟨gs,0,none⟩) (k+1) sx,.int .i64 G]);have HPOF:=zq (HPO12.out.kept (only_row11 w12 (w.heap.size+1) #[.int .i64 ref,.bool rev,.slice PX pn px,.slice (some ⟨gs,0,none⟩) (k+1) sx,.int .i64 G]) (.inr (HPO12.out.apart HZ.out (by decide))));have HSOF:=zq (HSO12.out.kept (only_row11 w12 (w.heap.size+1) #[.int .i64 ref,.bool rev,.slice PX pn px,.slice (some ⟨gs,0,none⟩) (k+1) sx,.int .i64 G]) (.inr (HSO12.out.apart HZ.out (by decide))));go_wp2_with (first|(with_reducible refine ldZ 96 HM12.out ?_)|(with_reducible refine stZ #[.int .i64 ref,.bool rev,.slice PX pn px,.slice (some ⟨gs,0,none⟩) (k+1) sx,.int .i64 G] HZ.out ?_));refine roZ HR.out ?_;have hpl_:PF.length=pn:=HPOF.out.2;have hsl_:LF.length=k+1:=HSOF.out.2;refine⟨⟨PX,px,some ⟨gs,0,none⟩,sx⟩,by unfold maC;dsimp only;rw[hpl_,hsl_],⟨?_,?_,?_,?_,HTL.out⟩,HBF.out,?_,?_⟩
  ·show SlO stC 2 _ PX PF.length px PF;rw[hpl_];exact HPOF.out.sl
  ·show SlO scC17 2 _ (some ⟨gs,0,none⟩) LF.length sx LF;rw[hsl_];exact HSOF.out.sl
  ·show PF.length<=px;rw[hpl_];exact HPOF.out.cap
  ·show LF.length<=sx;rw[hsl_];exact HSOF.out.cap
  ·show OwR stC 2 30 w.heap.size _ PX PF.length px PF;rw[hpl_];exact HPOF.out.to_base HBWA.out.size
  ·show OwR scC17 2 66 w.heap.size _ (some ⟨gs,0,none⟩) LF.length sx LF;rw[hsl_];exact HSOF.out.to_base HBWA.out.size
 obtain⟨y,hy⟩:=glZ c (i) (by rw[HCN.out.1];exact hlt);obtain⟨bk,off,rfl,d0,d1,d2⟩:=(HS.out wv HB.out).lock hy;have HTK:=zq (take_snoc17 hy);have HYS:=zq (HSOM.out y (List.mem_of_getElem? hy));have HAS:=zq (auth_snoc17 (t:=t) (b0:=I) (s:=⟨xe,xr⟩) (k:=y) (c:=c.take i) (g:=g));rw[<-HTK.out]at HAS;have HGS:=zq (show gapC t (c.take (i+1))=gapR t y.route from by rw[HTK.out];exact gap_snoc17 _ _);have x1:(i:Int)<cn:=by omega
 have x2:(0:Int)<=i:=by omega
 have HIN:=zq (show i<cn/\cn-i<=k1 from⟨hlt,hik⟩);clear hy hlt hik hi;have HEG:=zq (auth_edges17 (s:=⟨xe,xr⟩) HCK.out HGP.out.1.edges (c:=c.take (i+1)) (fun z hz=>HSOM.out z (List.mem_of_mem_take hz)));have HAF:=zq (auth_few17 HLT.out ⟨xe,xr⟩ (c.take (i+1)));obtain⟨kr,kt,kn⟩:=y;dsimp only at d0 d1 d2 HYS HAS HGS;obtain⟨R_,hR_⟩: ∃r,routeR t kr=r:=⟨_,rfl⟩
 obtain⟨ri,rpath,rg,rt⟩:=R_;have HRR:=zq hR_;clear hR_;obtain⟨is_,his_⟩: ∃b,(routeF t kr).isSome=b:=⟨_,rfl⟩
 have HIS:=zq his_;clear his_;obtain⟨rn,hrn_⟩: ∃n,rpath.length=n:=⟨_,rfl⟩
 have HPN:=zq hrn_;clear hrn_;have HPE:=zq (show pathR t kr=rpath from by rw[pathR_of,HRR.out]);have HTE:=zq (show timerR t kr=rt from by rw[timerR_of17,HRR.out]);have HGE:=zq (show gapR t kr=rg from by rw[gapR_of17,HRR.out]);rw[HPE.out,HTE.out]at HAS;rw[HGE.out]at HGS;have HPF:=zq (show pn<=900 from by have h1_:=HPO.out.2;rw[List.length_append]at h1_;have h2_:=HGP.out.2;have h3_:=auth_few17 HLT.out ⟨xe,xr⟩ (c.take i);have h4_:(c.take i).length<=8:=(by have h5_:=HCN.out;rw[List.length_take];omega);omega);obtain⟨bp,hbp⟩: ∃p,behS rpath ⟨xe,xr⟩=p:=⟨_,rfl⟩
 rw[hbp]at HAS;have HBP:=zq hbp;have HBL:=zq (show bp.length<=100 from by have h1_:=beh_len17 rpath ⟨xe,xr⟩;rw[hbp]at h1_;have h2_:=path_few17 HLT.out kr;rw[HPE.out]at h2_;omega);clear hbp;go_upto_region 7 with fail;obtain⟨w6,hw6⟩: ∃u,wv.alloc (.cells #[.int .i64 kr,.int .i64 kt,.int .i64 kn] 73)=u:=⟨_,rfl⟩
 rw[hw6];have hb6:Below wv.heap.size wv w6:=by rw[<-hw6];exact bA
 have hH6:Has w6 wv.heap.size 73 #[.int .i64 kr,.int .i64 kt,.int .i64 kn]:=by rw[<-hw6];exact Has.made _ _ _
 obtain⟨gk_,hgk_⟩: ∃g,wv.heap.size=g:=⟨_,rfl⟩
 rw[hgk_]at hH6;simp only[hgk_];have e0:w6.cell? ⟨gk_,0,none⟩=some (.int .i64 kr):=hH6.cell 0;have HB6:=zq (show Below wv.heap.size wv w6 from hb6);clear hw6 hb6 hH6 hgk_ d0 d1 d2 x1 x2;go_wp2_with (with_reducible refine ldZ 48 (H0.out w6 (HB.out.trans (HB6.out.mono HB.out.size))) ?_);refine(HRC.out w6 (HBWA.out.trans ((HB.out.trans (HB6.out.mono HB.out.size)).mono HBWA.out.size)) kr).mono ?_;rw[HRR.out,HIS.out];dsimp only;rw[HPN.out];rintro e_ w7 ⟨RA,rc,hsr,-,hrc,rfl,hb7⟩;unfold rtA;dsimp only;go_upto_region 8 with fail;obtain⟨w8,hw8⟩: ∃u,w7.alloc (.cells #[.int .i64 ri,.slice RA rn rc,.int .i64 rg,.int .i64 rt] 75)=u:=⟨_,rfl⟩
 have hH8:Has w8 w7.heap.size 75 #[.int .i64 ri,.slice RA rn rc,.int .i64 rg,.int .i64 rt]:=by rw[<-hw8];exact Has.made _ _ _
 have hb8:Below w7.heap.size w7 w8:=by rw[<-hw8];exact bA
 try rw[hw8]
 obtain⟨gr,hgr⟩: ∃g,w7.heap.size=g:=⟨_,rfl⟩
 have HBA:=zq (show Below wv.heap.size wv w8 from(bu HB6.out hb7).trans (hb8.mono (bu HB6.out hb7).size));have hq5:gfr<gr:=by have h1_:=(HF.out.under (bu HB6.out hb7) HF.out.lt).lt;omega
 rw[hgr]at hH8;simp only[hgr];have HSR:=zq (hsr.under hb8);have HRC_:=zq (show rn<=rc from hrc);have HR8:=zq hH8;have HM8:=zq (HM.out.under HBA.out HM.out.lt);have HF8:=zq (HF.out.under HBA.out HF.out.lt);have HP8:=zq (HP.out.under HBA.out HP.out.lt);have HPO8:=zq (HPO.out.under HBA.out);have HSO8:=zq (HSO.out.under HBA.out);have HB8:=zq (HB.out.trans (HBA.out.mono HB.out.size));have hq1:w.heap.size+1<wa.heap.size:=HBZ.out.2;have hq2:wa.heap.size<=gP:=HGG.out.2.2.1;have hq3:gP<gm:=HGG.out.2.2.2;have hq4:gm<gfr:=by have:=HGG.out.1;omega
 clear hw8 hH8 hb8 hgr hsr hrc hb7 e0 HB6 HBA HM HF HP HPO HSO HB;obtain⟨P0,hP0⟩: ∃l,g++authP t ⟨xe,xr⟩ (c.take i)=l:=⟨_,rfl⟩
 obtain⟨L0,hL0⟩: ∃l,authGo t I ⟨xe,xr⟩ g (c.take i)=l:=⟨_,rfl⟩
 rw[hP0]at HPO8;rw[hL0]at HSO8 HTP HAS;have HP0:=zq hP0;obtain⟨bn,hbn⟩: ∃m,bp.length=m:=⟨_,rfl⟩
 rw[hbn]at HBL;have HBN:=zq hbn;clear hP0 hL0 hbn;go_cut [43] (fun s43 wx=>s43= .int .i64 i/\ ∃PX3 px3,Has wx gm 38 #[.int .i64 ref,.bool rev,.slice PX3 (pn+bn) px3,.slice SX i sx,.int .i64 G]/\Has wx gfr 30 #[.int .i64 xe,.bool xr]/\(Value.slice PX3 (pn+bn) px3).ownBlock≠some gfr/\OwR stC 2 30 wa.heap.size wx PX3 (pn+bn) px3 (P0++bp)/\OwR scC17 2 66 wa.heap.size wx SX i sx L0/\Has wx gr 75 #[.int .i64 ri,.slice RA rn rc,.int .i64 rg,.int .i64 rt]/\Has wx gP 51 #[.int .i64 pe,.int .i64 pa,.bool pr]/\Below wa.heap.size wa wx)
 case first=>
  refine wp_region_held_drew (S:=(fun W_=>(Has W_ (gr) 75 #[.int .i64 ri,.slice RA rn rc,.int .i64 rg,.int .i64 rt])/\(Has W_ (gfr) 30 #[.int .i64 xe,.bool xr])/\(Has W_ (gP) 51 #[.int .i64 pe,.int .i64 pa,.bool pr])/\(Below wa.heap.size wa W_))) (by kernel_rfl) ?_ (fun hHeld=>?_)
  ·exact⟨HR8.out.draw,HF8.out.draw,HP8.out.draw,below_dr11 HB8.out⟩
  have HM8:=zq HM8.out.draw;have HPO8:=zq HPO8.out.draw1;have HSO8:=zq HSO8.out.draw1;have HSR:=zq HSR.out.draw1;refine tkZ 0 54 (h:=?_);simp only[lyZ];refine tkZ 2 56 (h:=?_);simp only[lyZ];refine tqZ 3 57 (fun w_ ⟨s0,s1,s2,s3⟩=>(show w_.cell? ⟨gr,1,none⟩=some (.slice RA rn rc:Value)from s0.cell 1)) (h:=?_);simp only[lyZ];refine tlZ 4 58 gfr #[.int .i64 xe,.bool xr] (fun _ ⟨_,h_,_,_⟩=>h_) (h:=?_);simp only[lyZ];refine rdZ [1,5] (acZ (some 55) (fun K hK=>?za4) (acZ (some 59) (fun K hK=>?zb4) AllReadyH.nil))
  case' za4=>
   skip;obtain⟨s0,s1,s2,s3⟩:=hHeld;have q_:=HM8.out.cell 2;go_simp;clear q_;refine hK.out _ _ ?_ (fun hHeld=>?_)
   ·exact⟨s0,s1,s2,s3⟩
   clear hK K s0 s1 s2 s3
   try simp only[lyZ]
   refine aoZ 5 (some 59) (fun K hK=>?_);go_simp;obtain⟨s0,s1,s2,s3⟩:=hHeld;refine(opbehind_any rpath ⟨xe,xr⟩ RA rn rc _ HSR.out HRC_.out (by have h1_:=path_few17 HLT.out kr;have h2_:=HPE.out;have h3_:=HPN.out;rw[h2_]at h1_;omega)).mono ?_;rw[HBP.out];rintro e_ q1 ⟨B,m,d,rfl,hsl_,hmd_,hb_⟩;obtain rfl:m=bn:=by rw[<-HBN.out];exact hsl_.1.symm
   have HM8:=uH HM8 hb_;have HPO8:=zq (HPO8.out.under hb_);have HSO8:=zq (HSO8.out.under hb_);have HSR:=zq (HSR.out.under hb_);have HSL:=zq (hsl_);go_wp2_with fail;refine hK.out _ _ ?_ (fun hHeld=>?_)
   ·exact⟨s0.u hb_,s1.u hb_,s2.u hb_,bu s3 hb_⟩
  case' zb4=>
   go_simp;obtain⟨s0,s1,s2,s3⟩:=hHeld;refine(opbehind_any rpath ⟨xe,xr⟩ RA rn rc _ HSR.out HRC_.out (by have h1_:=path_few17 HLT.out kr;have h2_:=HPE.out;have h3_:=HPN.out;rw[h2_]at h1_;omega)).mono ?_;rw[HBP.out];rintro e_ q1 ⟨B,m,d,rfl,hsl_,hmd_,hb_⟩;obtain rfl:m=bn:=by rw[<-HBN.out];exact hsl_.1.symm
   have HM8:=uH HM8 hb_;have HPO8:=zq (HPO8.out.under hb_);have HSO8:=zq (HSO8.out.under hb_);have HSR:=zq (HSR.out.under hb_);have HSL:=zq (hsl_);go_wp2_with fail;refine hK.out _ _ ?_ (fun hHeld=>?_)
   ·exact⟨s0.u hb_,s1.u hb_,s2.u hb_,bu s3 hb_⟩
   clear hK K s0 s1 s2 s3
   try simp only[lyZ]
   refine aoZ 1 (some 55) (fun K hK=>?_);skip;obtain⟨s0,s1,s2,s3⟩:=hHeld;have q_:=HM8.out.cell 2;go_simp;clear q_;refine hK.out _ _ ?_ (fun hHeld=>?_)
   ·exact⟨s0,s1,s2,s3⟩
  all_goals
   clear hK K s0 s1 s2 s3
   try simp only[lyZ]
   refine aoZ 6 (some 60) (fun K hK=>?_);skip;obtain⟨s0,s1,s2,s3⟩:=hHeld;obtain⟨hO,hSL,h1,hBD⟩:=pourR 16 HPO8.out HSL.out one_st17 s3.size (by have h1_:=HPF.out;have h2_:=HBL.out;omega) (by omega);refine step_pour17 (o:=⟨some 60,_,_,_,_,_⟩) (by rfl) (.tmp 55) (.tmp 59) 35 (by rfl) wa.heap.size 30 (.agg #[.int .i64 0,.bool false]) 2 16 Tryz.underlying35 info_step14 (by rfl) (by decide) PX pn px _ (by rfl) hO B m d _ (by rfl) hSL h1 hBD ?_;intro X3 x3 u3 ho hg h5;have HNE3:=zq (show(Value.slice X3 (pn+m) x3).ownBlock≠some gfr from by
    rcases h5.out with e|e
    ·rw[e];exact HNE.out
    ·rw[e];intro h_;injection h_ with h_;have:=s1.lt;omega)
   have hs0:=s0.grow hg.out (Ne.symm (HPO8.out.apart s0 (by decide)));have hs1:=s1.grow hg.out (Ne.symm HNE.out);have hs2:=s2.grow hg.out (Ne.symm (HPO8.out.apart s2 (by decide)));have hs3:=below_own s3 s3.size hO.out (Nat.le_refl _) rfl hg.out;have HM8:=zq (HM8.out.grow hg.out (Ne.symm (HPO8.out.apart HM8.out (by decide))));have HSO8:=zq (HSO8.out.kept hg.out (OwR.two HSO8.out HPO8.out (by decide)));have HPO8:=zq (OwR.poured HPO8.out.2 HBN.out ho.out);refine hK.out _ _ ?_ (fun hHeld=>?_)
   ·exact⟨hs0,hs1,hs2,hs3⟩
   clear hK K s0 s1 s2 s3
   try simp only[lyZ]
   refine tkZ 7 61 (h:=?_);simp only[lyZ];refine aoZ 8 none (fun K hK=>?_);rw[if_pos (by rfl)];obtain⟨s0,s1,s2,s3⟩:=hHeld;refine wp_store_cell17 35 _ _ rfl (gm) 2 (.slice X3 (pn+m) x3) (by rfl) (by rfl) 38 #[.int .i64 ref,.bool rev,.slice PX pn px,.slice SX i sx,.int .i64 G] HM8.out (Nat.le_of_ble_eq_true rfl) (by kernel_rfl) rfl #[.int .i64 ref,.bool rev,.slice X3 (pn+m) x3,.slice SX i sx,.int .i64 G] rfl ?_;have HPO8:=zq (HPO8.out.kept (only_row11 _ _ #[.int .i64 ref,.bool rev,.slice X3 (pn+m) x3,.slice SX i sx,.int .i64 G]) (.inr (HPO8.out.apart HM8.out (by decide))));have HSO8:=zq (HSO8.out.kept (only_row11 _ _ #[.int .i64 ref,.bool rev,.slice X3 (pn+m) x3,.slice SX i sx,.int .i64 G]) (.inr (HSO8.out.apart HM8.out (by decide))));refine hK.out _ _ ?_ (fun hHeld=>?_)
   ·exact⟨has_rowo11 s0 (by omega) _,has_rowo11 s1 (by omega) _,has_rowo11 s2 (by omega) _,below_row s3 (by omega) _⟩
   have HM8:=zq (has_row11 HM8.out #[.int .i64 ref,.bool rev,.slice X3 (pn+m) x3,.slice SX i sx,.int .i64 G]);clear hK K s0 s1 s2 s3
   try simp only[Act.put]
   refine dnZ ?_;go_wp2_with fail;go_meet
   exact⟨rfl,X3,x3,HM8.out,hHeld.2.1,HNE3.out,HPO8.out,HSO8.out,hHeld.1,hHeld.2.2.1,hHeld.2.2.2⟩
 obtain⟨rfl,PX3,px3,hm_,hf_,hne_,hpo_,hso_,hr_,hp_,hb_⟩:=hcut;obtain⟨w9,hw9⟩: ∃u,u=wc:=⟨_,rfl⟩
 subst hw9;obtain⟨pn3,hpn3⟩: ∃m,pn+bn=m:=⟨_,rfl⟩
 obtain⟨P3,hP3⟩: ∃p,P0++bp=p:=⟨_,rfl⟩
 rw[hpn3]at hm_ hne_ hpo_;rw[hP3]at hpo_;have HP3:=zq (show g++authP t ⟨xe,xr⟩ (c.take (i+1))=P3 from by rw[HAS.out.2,<-List.append_assoc,HP0.out];exact hP3);rw[HP3.out]at HEG;skip;have HPN3:=zq (show pn3<=1000 from by have h1_:=HPF.out;have h2_:=HBL.out;omega);have HSM:=zq (sum_ok HOK.out HEG.out);have HPL:=zq hpo_.2;obtain⟨S,hS⟩:=geZ (sumT t P3);rw[hS,HPL.out]at HSM;have HSE:=zq hS;obtain⟨D,hD⟩:=geZ (S-I);have hw1:IntKind.i64.wrap (S-I)=D:=by rw[IntKind.wrap_i64];have h1_:=HSM.out;have h2_:=HIB.out;have h3_:=HPN3.out;omega
 have HW1:=zq hw1;have HDT:=zq (show -1000000<=D/\D<=1000000000 from by have h1_:=HSM.out;have h2_:=HIB.out;have h3_:=HPN3.out;omega);have HAN:=zq (show authGo t I ⟨xe,xr⟩ g (c.take (i+1))=L0++[⟨D,rt⟩]from by rw[HAS.out.1,HP3.out,hS,hD]);have HTN:=zq (show∀y∈authGo t I ⟨xe,xr⟩ g (c.take (i+1)),-1000000<=y.to_/\y.to_<=1000000000 from by rw[HAN.out];intro y hy;rcases List.mem_append.1 hy with hy|hy;exact HTP.out y hy;rw[List.mem_singleton]at hy;subst hy;exact HDT.out);have HM9:=zq hm_;have HF9:=zq hf_;have HNE9:=zq hne_;have HPO9:=zq hpo_;have HSO9:=zq hso_;have HR9:=zq hr_;have HP9:=zq hp_;have HB9:=zq hb_;clear hm_ hf_ hne_ hpo_ hso_ hr_ hp_ hb_ hpn3 hP3 hS hD hw1 HM8 HF8 HP8 HPO8 HSO8 HR8 HB8 HSR;go_upto_region 9 with fail;go_cut [43] (fun s43 wx=>s43= .int .i64 i/\ ∃SX3 sx3,Has wx gm 38 #[.int .i64 ref,.bool rev,.slice PX3 pn3 px3,.slice SX3 (i+1) sx3,.int .i64 G]/\Has wx gfr 30 #[.int .i64 xe,.bool xr]/\OwR stC 2 30 wa.heap.size wx PX3 pn3 px3 P3/\OwR scC17 2 66 wa.heap.size wx SX3 (i+1) sx3 (L0++[⟨D,rt⟩])/\Has wx gr 75 #[.int .i64 ri,.slice RA rn rc,.int .i64 rg,.int .i64 rt]/\Has wx gP 51 #[.int .i64 pe,.int .i64 pa,.bool pr]/\Below wa.heap.size wa wx)
 case first=>
  refine wp_region_held_drew (S:=(fun W_=>(Has W_ (w.heap.size) 27 (tpC t a))/\(W_.cell? ⟨gm,2,none⟩=some (.slice PX3 pn3 px3))/\(Has W_ (gr) 75 #[.int .i64 ri,.slice RA rn rc,.int .i64 rg,.int .i64 rt])/\(Has W_ (gP) 51 #[.int .i64 pe,.int .i64 pa,.bool pr])/\(Has W_ (gfr) 30 #[.int .i64 xe,.bool xr])/\(Below wa.heap.size wa W_))) (by kernel_rfl) ?_ (fun hHeld=>?_)
  ·exact⟨(H0.out _ HB9.out).draw,HM9.out.draw.cell 2,HR9.out.draw,HP9.out.draw,HF9.out.draw,below_dr11 HB9.out⟩
  have HM9:=zq HM9.out.draw;have HPO9:=zq HPO9.out.draw1;have HSO9:=zq HSO9.out.draw1;refine tkZ 0 62 (h:=?_);simp only[lyZ];refine tlZ 2 64 w.heap.size (tpC t a) (fun _ ⟨h_,_,_,_,_,_⟩=>h_) (h:=?_);simp only[lyZ];refine tkZ 3 65 (h:=?_);simp only[lyZ];refine tqZ 4 66 (fun w_ ⟨s0,s1,s2,s3,s4,s5⟩=>s1) (h:=?_);simp only[lyZ];refine tlZ 6 68 w.heap.size (tpC t a) (fun _ ⟨h_,_,_,_,_,_⟩=>h_) (h:=?_);simp only[lyZ];refine tlZ 7 69 gP #[.int .i64 pe,.int .i64 pa,.bool pr] (fun _ ⟨_,_,_,h_,_,_⟩=>h_) (h:=?_);simp only[lyZ];refine tkZ 10 72 (h:=?_);simp only[lyZ];refine tqZ 11 73 (fun w_ ⟨s0,s1,s2,s3,s4,s5⟩=>(show w_.cell? ⟨gr,3,none⟩=some (.int .i64 rt:Value)from s2.cell 3)) (h:=?_);simp only[lyZ];refine rdZ [1,5] ?_;refine acZ (some 63) (fun K hK=>?_) ?_
  ·skip
   obtain⟨s0,s1,s2,s3,s4,s5⟩:=hHeld;have q_:=HM9.out.cell 3;go_simp;clear q_;refine hK.out _ _ ?_ (fun hHeld=>?_)
   ·exact⟨s0,s1,s2,s3,s4,s5⟩
   clear hK K s0 s1 s2 s3 s4 s5
   try simp only[lyZ]
   refine aoZ 5 (some 67) (fun K hK=>?_);go_simp;obtain⟨s0,s1,s2,s3,s4,s5⟩:=hHeld;refine(HTO.out _ (bu HBWA.out s5) P3 PX3 pn3 px3 HPO9.out.sl (by have:=HPN3.out;omega) HEG.out).mono ?_;rw[HSE.out];rintro e_ q1 ⟨rfl,hb_⟩;have HM9:=uH HM9 hb_;have HPO9:=zq (HPO9.out.under hb_);have HSO9:=zq (HSO9.out.under hb_);go_wp2_with fail;refine hK.out _ _ ?_ (fun hHeld=>?_)
   ·exact⟨s0.u hb_,(hb_.cell (cell_block s1)).trans s1,s2.u hb_,s3.u hb_,s4.u hb_,bu s5 hb_⟩
   clear hK K s0 s1 s2 s3 s4 s5
   try simp only[lyZ]
   refine aoZ 8 (some 70) (fun K hK=>?_);go_simp;obtain⟨s0,s1,s2,s3,s4,s5⟩:=hHeld;refine(HEO.out _ (bu HBWA.out s5)).mono ?_;rintro e_ q2 ⟨rfl,hb2_⟩;have HM9:=uH HM9 hb2_;have HPO9:=zq (HPO9.out.under hb2_);have HSO9:=zq (HSO9.out.under hb2_);go_wp2_with fail;refine hK.out _ _ ?_ (fun hHeld=>?_)
   ·exact⟨s0.u hb2_,(hb2_.cell (cell_block s1)).trans s1,s2.u hb2_,s3.u hb2_,s4.u hb2_,bu s5 hb2_⟩
   clear hK K s0 s1 s2 s3 s4 s5
   try simp only[lyZ]
   refine tqZ 9 71 (fun w_ ⟨s0,s1,s2,s3,s4,s5⟩=>HW1.out) (h:=?_);simp only[lyZ];refine tkZ 12 74 (h:=?_);simp only[lyZ];refine aoZ 13 (some 75) (fun K hK=>?_);go_simp;obtain⟨s0,s1,s2,s3,s4,s5⟩:=hHeld;obtain⟨gl,hgl⟩:=geZ (q2.heap.size);have p0_gl:w.heap.size<gl:=by rw[<-hgl];exact s0.lt
   have p2_gl:gr<gl:=by rw[<-hgl];exact s2.lt
   have p3_gl:gP<gl:=by rw[<-hgl];exact s3.lt
   have p4_gl:gfr<gl:=by rw[<-hgl];exact s4.lt
   have p5_gl:wa.heap.size<=gl:=by rw[<-hgl];exact s5.size
   rw[hgl];refine hK.out _ _ ?_ (fun hHeld=>?_)
   ·exact⟨s0.beside _,((bA).cell (cell_block s1)).trans s1,s2.beside _,s3.beside _,s4.beside _,below_al11 s5 _⟩
   have HNL:=zq (show(Value.slice SX i sx).ownBlock≠some gl from by rw[<-hgl];exact HSO9.out.ne (Nat.le_refl _));have HM9:=zq (HM9.out.beside (.cells #[.int .i64 D,.int .i64 rt] 66));have HPO9:=zq (HPO9.out.under ((Below.refl _ _).alloc (Nat.le_refl _) (.cells #[.int .i64 D,.int .i64 rt] 66)));have HSO9:=zq (HSO9.out.under ((Below.refl _ _).alloc (Nat.le_refl _) (.cells #[.int .i64 D,.int .i64 rt] 66)));refine wpAnyH_more11 (T:=(fun W_=>(Has W_ (w.heap.size) 27 (tpC t a))/\(W_.cell? ⟨gm,2,none⟩=some (.slice PX3 pn3 px3))/\(Has W_ (gr) 75 #[.int .i64 ri,.slice RA rn rc,.int .i64 rg,.int .i64 rt])/\(Has W_ (gP) 51 #[.int .i64 pe,.int .i64 pa,.bool pr])/\(Has W_ (gfr) 30 #[.int .i64 xe,.bool xr])/\(Below wa.heap.size wa W_)/\(Has W_ (gl) 66 #[.int .i64 D,.int .i64 rt]))) (fun _ ⟨s0,s1,s2,s3,s4,s5,s6⟩=>⟨s0,s1,s2,s3,s4,s5⟩) ?_;have hHeld2:(fun W_=>(Has W_ (w.heap.size) 27 (tpC t a))/\(W_.cell? ⟨gm,2,none⟩=some (.slice PX3 pn3 px3))/\(Has W_ (gr) 75 #[.int .i64 ri,.slice RA rn rc,.int .i64 rg,.int .i64 rt])/\(Has W_ (gP) 51 #[.int .i64 pe,.int .i64 pa,.bool pr])/\(Has W_ (gfr) 30 #[.int .i64 xe,.bool xr])/\(Below wa.heap.size wa W_)/\(Has W_ (gl) 66 #[.int .i64 D,.int .i64 rt])) _:=⟨s0.beside _,((bA).cell (cell_block s1)).trans s1,s2.beside _,s3.beside _,s4.beside _,below_al11 s5 _,(by rw[<-hgl];exact Has.made _ _ _)⟩
   clear hHeld;have hHeld:=hHeld2;clear hHeld2;clear hK K hgl s0 s1 s2 s3 s4 s5
   try simp only[lyZ]
   refine aoZ 14 (some 76) (fun K hK=>?_);skip;obtain⟨s0,s1,s2,s3,s4,s5,s6⟩:=hHeld;obtain⟨hO,hSL,h1,hBD⟩:=pourR 16 HSO9.out (⟨rfl,sl_hasR s6 rfl⟩:SlO scC17 2 _ (some ⟨gl,0,none⟩) 1 1 [⟨D,rt⟩]) one_sc17 s5.size (by have h1_:=HIN.out;have h2_:=HCN.out;omega) (by omega);refine step_pour17 (o:=⟨some 76,_,_,_,_,_⟩) (by rfl) (.tmp 63) (.tmp 75) 36 (by rfl) wa.heap.size 66 (.agg #[.int .i64 0,.int .i64 0]) 2 16 Tryz.underlying36 info_sect17 (by rfl) (by decide) SX i sx _ (by rfl) hO (some ⟨gl,0,none⟩) 1 1 _ (by rfl) hSL h1 hBD ?_;intro X3 x3 u3 ho hg h5;have hs0:=s0.grow hg.out (Ne.symm (HSO9.out.apart s0 (by decide)));have hs1:=hg.out.cell s1 (Ne.symm (HSO9.out.apart HM9.out (by decide)));have hs2:=s2.grow hg.out (Ne.symm (HSO9.out.apart s2 (by decide)));have hs3:=s3.grow hg.out (Ne.symm (HSO9.out.apart s3 (by decide)));have hs4:=s4.grow hg.out (Ne.symm (HSO9.out.apart s4 (by decide)));have hs5:=below_own s5 s5.size hO.out (Nat.le_refl _) rfl hg.out;have hs6:=s6.grow hg.out (Ne.symm HNL.out);have HM9:=zq (HM9.out.grow hg.out (Ne.symm (HSO9.out.apart HM9.out (by decide))));have HPO9:=zq (HPO9.out.kept hg.out (OwR.two HPO9.out HSO9.out (by decide)));have HSO9:=zq (OwR.poured (l':=[⟨D,rt⟩]) HSO9.out.2 rfl ho.out);refine hK.out _ _ ?_ (fun hHeld=>?_)
   ·exact⟨hs0,hs1,hs2,hs3,hs4,hs5,hs6⟩
   clear hK K s0 s1 s2 s3 s4 s5 s6
   try simp only[lyZ]
   refine tkZ 15 77 (h:=?_);simp only[lyZ];refine aoZ 16 none (fun K hK=>?_);rw[if_pos (by rfl)];obtain⟨s0,s1,s2,s3,s4,s5,s6⟩:=hHeld;refine wp_store_cell17 36 _ _ rfl (gm) 3 (.slice X3 (i+1) x3) (by rfl) (by rfl) 38 #[.int .i64 ref,.bool rev,.slice PX3 pn3 px3,.slice SX i sx,.int .i64 G] HM9.out (Nat.le_of_ble_eq_true rfl) (by kernel_rfl) rfl #[.int .i64 ref,.bool rev,.slice PX3 pn3 px3,.slice X3 (i+1) x3,.int .i64 G] rfl ?_;have HPO9:=zq (HPO9.out.kept (only_row11 _ _ #[.int .i64 ref,.bool rev,.slice PX3 pn3 px3,.slice X3 (i+1) x3,.int .i64 G]) (.inr (HPO9.out.apart HM9.out (by decide))));have HSO9:=zq (HSO9.out.kept (only_row11 _ _ #[.int .i64 ref,.bool rev,.slice PX3 pn3 px3,.slice X3 (i+1) x3,.int .i64 G]) (.inr (HSO9.out.apart HM9.out (by decide))));refine hK.out _ _ ?_ (fun hHeld=>?_)
   ·exact⟨has_rowo11 s0 (by omega) _,(has_row11 HM9.out #[.int .i64 ref,.bool rev,.slice PX3 pn3 px3,.slice X3 (i+1) x3,.int .i64 G]).cell 2,has_rowo11 s2 (by omega) _,has_rowo11 s3 (by omega) _,has_rowo11 s4 (by omega) _,below_row s5 (by omega) _,has_rowo11 s6 (by omega) _⟩
   have HM9:=zq (has_row11 HM9.out #[.int .i64 ref,.bool rev,.slice PX3 pn3 px3,.slice X3 (i+1) x3,.int .i64 G]);clear hK K s0 s1 s2 s3 s4 s5 s6
   try simp only[Act.put]
   refine dnZ ?_;go_wp2_with fail;go_meet
   exact⟨rfl,X3,x3,HM9.out,hHeld.2.2.2.2.1,HPO9.out,HSO9.out,hHeld.2.2.1,hHeld.2.2.2.1,hHeld.2.2.2.2.2.1⟩
  refine acZ (some 67) (fun K hK=>?_) ?_
  ·go_simp
   obtain⟨s0,s1,s2,s3,s4,s5⟩:=hHeld;refine(HTO.out _ (bu HBWA.out s5) P3 PX3 pn3 px3 HPO9.out.sl (by have:=HPN3.out;omega) HEG.out).mono ?_;rw[HSE.out];rintro e_ q1 ⟨rfl,hb_⟩;have HM9:=uH HM9 hb_;have HPO9:=zq (HPO9.out.under hb_);have HSO9:=zq (HSO9.out.under hb_);go_wp2_with fail;refine hK.out _ _ ?_ (fun hHeld=>?_)
   ·exact⟨s0.u hb_,(hb_.cell (cell_block s1)).trans s1,s2.u hb_,s3.u hb_,s4.u hb_,bu s5 hb_⟩
   clear hK K s0 s1 s2 s3 s4 s5
   try simp only[lyZ]
   refine rdZ [1,8] ?_;refine acZ (some 63) (fun K hK=>?_) ?_
   ·skip
    obtain⟨s0,s1,s2,s3,s4,s5⟩:=hHeld;have q_:=HM9.out.cell 3;go_simp;clear q_;refine hK.out _ _ ?_ (fun hHeld=>?_)
    ·exact⟨s0,s1,s2,s3,s4,s5⟩
    clear hK K s0 s1 s2 s3 s4 s5
    try simp only[lyZ]
    refine aoZ 8 (some 70) (fun K hK=>?_);go_simp;obtain⟨s0,s1,s2,s3,s4,s5⟩:=hHeld;refine(HEO.out _ (bu HBWA.out s5)).mono ?_;rintro e_ q2 ⟨rfl,hb2_⟩;have HM9:=uH HM9 hb2_;have HPO9:=zq (HPO9.out.under hb2_);have HSO9:=zq (HSO9.out.under hb2_);go_wp2_with fail;refine hK.out _ _ ?_ (fun hHeld=>?_)
    ·exact⟨s0.u hb2_,(hb2_.cell (cell_block s1)).trans s1,s2.u hb2_,s3.u hb2_,s4.u hb2_,bu s5 hb2_⟩
    clear hK K s0 s1 s2 s3 s4 s5
    try simp only[lyZ]
    refine tqZ 9 71 (fun w_ ⟨s0,s1,s2,s3,s4,s5⟩=>HW1.out) (h:=?_);simp only[lyZ];refine tkZ 12 74 (h:=?_);simp only[lyZ];refine aoZ 13 (some 75) (fun K hK=>?_);go_simp;obtain⟨s0,s1,s2,s3,s4,s5⟩:=hHeld;obtain⟨gl,hgl⟩:=geZ (q2.heap.size);have p0_gl:w.heap.size<gl:=by rw[<-hgl];exact s0.lt
    have p2_gl:gr<gl:=by rw[<-hgl];exact s2.lt
    have p3_gl:gP<gl:=by rw[<-hgl];exact s3.lt
    have p4_gl:gfr<gl:=by rw[<-hgl];exact s4.lt
    have p5_gl:wa.heap.size<=gl:=by rw[<-hgl];exact s5.size
    rw[hgl];refine hK.out _ _ ?_ (fun hHeld=>?_)
    ·exact⟨s0.beside _,((bA).cell (cell_block s1)).trans s1,s2.beside _,s3.beside _,s4.beside _,below_al11 s5 _⟩
    have HNL:=zq (show(Value.slice SX i sx).ownBlock≠some gl from by rw[<-hgl];exact HSO9.out.ne (Nat.le_refl _));have HM9:=zq (HM9.out.beside (.cells #[.int .i64 D,.int .i64 rt] 66));have HPO9:=zq (HPO9.out.under ((Below.refl _ _).alloc (Nat.le_refl _) (.cells #[.int .i64 D,.int .i64 rt] 66)));have HSO9:=zq (HSO9.out.under ((Below.refl _ _).alloc (Nat.le_refl _) (.cells #[.int .i64 D,.int .i64 rt] 66)));refine wpAnyH_more11 (T:=(fun W_=>(Has W_ (w.heap.size) 27 (tpC t a))/\(W_.cell? ⟨gm,2,none⟩=some (.slice PX3 pn3 px3))/\(Has W_ (gr) 75 #[.int .i64 ri,.slice RA rn rc,.int .i64 rg,.int .i64 rt])/\(Has W_ (gP) 51 #[.int .i64 pe,.int .i64 pa,.bool pr])/\(Has W_ (gfr) 30 #[.int .i64 xe,.bool xr])/\(Below wa.heap.size wa W_)/\(Has W_ (gl) 66 #[.int .i64 D,.int .i64 rt]))) (fun _ ⟨s0,s1,s2,s3,s4,s5,s6⟩=>⟨s0,s1,s2,s3,s4,s5⟩) ?_;have hHeld2:(fun W_=>(Has W_ (w.heap.size) 27 (tpC t a))/\(W_.cell? ⟨gm,2,none⟩=some (.slice PX3 pn3 px3))/\(Has W_ (gr) 75 #[.int .i64 ri,.slice RA rn rc,.int .i64 rg,.int .i64 rt])/\(Has W_ (gP) 51 #[.int .i64 pe,.int .i64 pa,.bool pr])/\(Has W_ (gfr) 30 #[.int .i64 xe,.bool xr])/\(Below wa.heap.size wa W_)/\(Has W_ (gl) 66 #[.int .i64 D,.int .i64 rt])) _:=⟨s0.beside _,((bA).cell (cell_block s1)).trans s1,s2.beside _,s3.beside _,s4.beside _,below_al11 s5 _,(by rw[<-hgl];exact Has.made _ _ _)⟩
    clear hHeld;have hHeld:=hHeld2;clear hHeld2;clear hK K hgl s0 s1 s2 s3 s4 s5
    try simp only[lyZ]
    refine aoZ 14 (some 76) (fun K hK=>?_);skip;obtain⟨s0,s1,s2,s3,s4,s5,s6⟩:=hHeld;obtain⟨hO,hSL,h1,hBD⟩:=pourR 16 HSO9.out (⟨rfl,sl_hasR s6 rfl⟩:SlO scC17 2 _ (some ⟨gl,0,none⟩) 1 1 [⟨D,rt⟩]) one_sc17 s5.size (by have h1_:=HIN.out;have h2_:=HCN.out;omega) (by omega);refine step_pour17 (o:=⟨some 76,_,_,_,_,_⟩) (by rfl) (.tmp 63) (.tmp 75) 36 (by rfl) wa.heap.size 66 (.agg #[.int .i64 0,.int .i64 0]) 2 16 Tryz.underlying36 info_sect17 (by rfl) (by decide) SX i sx _ (by rfl) hO (some ⟨gl,0,none⟩) 1 1 _ (by rfl) hSL h1 hBD ?_;intro X3 x3 u3 ho hg h5;have hs0:=s0.grow hg.out (Ne.symm (HSO9.out.apart s0 (by decide)));have hs1:=hg.out.cell s1 (Ne.symm (HSO9.out.apart HM9.out (by decide)));have hs2:=s2.grow hg.out (Ne.symm (HSO9.out.apart s2 (by decide)));have hs3:=s3.grow hg.out (Ne.symm (HSO9.out.apart s3 (by decide)));have hs4:=s4.grow hg.out (Ne.symm (HSO9.out.apart s4 (by decide)));have hs5:=below_own s5 s5.size hO.out (Nat.le_refl _) rfl hg.out;have hs6:=s6.grow hg.out (Ne.symm HNL.out);have HM9:=zq (HM9.out.grow hg.out (Ne.symm (HSO9.out.apart HM9.out (by decide))));have HPO9:=zq (HPO9.out.kept hg.out (OwR.two HPO9.out HSO9.out (by decide)));have HSO9:=zq (OwR.poured (l':=[⟨D,rt⟩]) HSO9.out.2 rfl ho.out);refine hK.out _ _ ?_ (fun hHeld=>?_)
    ·exact⟨hs0,hs1,hs2,hs3,hs4,hs5,hs6⟩
    clear hK K s0 s1 s2 s3 s4 s5 s6
    try simp only[lyZ]
    refine tkZ 15 77 (h:=?_);simp only[lyZ];refine aoZ 16 none (fun K hK=>?_);rw[if_pos (by rfl)];obtain⟨s0,s1,s2,s3,s4,s5,s6⟩:=hHeld;refine wp_store_cell17 36 _ _ rfl (gm) 3 (.slice X3 (i+1) x3) (by rfl) (by rfl) 38 #[.int .i64 ref,.bool rev,.slice PX3 pn3 px3,.slice SX i sx,.int .i64 G] HM9.out (Nat.le_of_ble_eq_true rfl) (by kernel_rfl) rfl #[.int .i64 ref,.bool rev,.slice PX3 pn3 px3,.slice X3 (i+1) x3,.int .i64 G] rfl ?_;have HPO9:=zq (HPO9.out.kept (only_row11 _ _ #[.int .i64 ref,.bool rev,.slice PX3 pn3 px3,.slice X3 (i+1) x3,.int .i64 G]) (.inr (HPO9.out.apart HM9.out (by decide))));have HSO9:=zq (HSO9.out.kept (only_row11 _ _ #[.int .i64 ref,.bool rev,.slice PX3 pn3 px3,.slice X3 (i+1) x3,.int .i64 G]) (.inr (HSO9.out.apart HM9.out (by decide))));refine hK.out _ _ ?_ (fun hHeld=>?_)
    ·exact⟨has_rowo11 s0 (by omega) _,(has_row11 HM9.out #[.int .i64 ref,.bool rev,.slice PX3 pn3 px3,.slice X3 (i+1) x3,.int .i64 G]).cell 2,has_rowo11 s2 (by omega) _,has_rowo11 s3 (by omega) _,has_rowo11 s4 (by omega) _,below_row s5 (by omega) _,has_rowo11 s6 (by omega) _⟩
    have HM9:=zq (has_row11 HM9.out #[.int .i64 ref,.bool rev,.slice PX3 pn3 px3,.slice X3 (i+1) x3,.int .i64 G]);clear hK K s0 s1 s2 s3 s4 s5 s6
    try simp only[Act.put]
    refine dnZ ?_;go_wp2_with fail;go_meet
    exact⟨rfl,X3,x3,HM9.out,hHeld.2.2.2.2.1,HPO9.out,HSO9.out,hHeld.2.2.1,hHeld.2.2.2.1,hHeld.2.2.2.2.2.1⟩
   refine acZ (some 70) (fun K hK=>?_) ?_
   ·go_simp
    obtain⟨s0,s1,s2,s3,s4,s5⟩:=hHeld;refine(HEO.out _ (bu HBWA.out s5)).mono ?_;rintro e_ q2 ⟨rfl,hb2_⟩;have HM9:=uH HM9 hb2_;have HPO9:=zq (HPO9.out.under hb2_);have HSO9:=zq (HSO9.out.under hb2_);go_wp2_with fail;refine hK.out _ _ ?_ (fun hHeld=>?_)
    ·exact⟨s0.u hb2_,(hb2_.cell (cell_block s1)).trans s1,s2.u hb2_,s3.u hb2_,s4.u hb2_,bu s5 hb2_⟩
    clear hK K s0 s1 s2 s3 s4 s5
    try simp only[lyZ]
    refine tqZ 9 71 (fun w_ ⟨s0,s1,s2,s3,s4,s5⟩=>HW1.out) (h:=?_);simp only[lyZ];refine tkZ 12 74 (h:=?_);simp only[lyZ];refine rdZ [1,13] (acZ (some 63) (fun K hK=>?za5) (acZ (some 75) (fun K hK=>?zb5) AllReadyH.nil))
    case' za5=>
     skip;obtain⟨s0,s1,s2,s3,s4,s5⟩:=hHeld;have q_:=HM9.out.cell 3;go_simp;clear q_;refine hK.out _ _ ?_ (fun hHeld=>?_)
     ·exact⟨s0,s1,s2,s3,s4,s5⟩
     clear hK K s0 s1 s2 s3 s4 s5
     try simp only[lyZ]
     refine aoZ 13 (some 75) (fun K hK=>?_);go_simp;obtain⟨s0,s1,s2,s3,s4,s5⟩:=hHeld;obtain⟨gl,hgl⟩:=geZ (q2.heap.size);have p0_gl:w.heap.size<gl:=by rw[<-hgl];exact s0.lt
     have p2_gl:gr<gl:=by rw[<-hgl];exact s2.lt
     have p3_gl:gP<gl:=by rw[<-hgl];exact s3.lt
     have p4_gl:gfr<gl:=by rw[<-hgl];exact s4.lt
     have p5_gl:wa.heap.size<=gl:=by rw[<-hgl];exact s5.size
     rw[hgl];refine hK.out _ _ ?_ (fun hHeld=>?_)
     ·exact⟨s0.beside _,((bA).cell (cell_block s1)).trans s1,s2.beside _,s3.beside _,s4.beside _,below_al11 s5 _⟩
     have HNL:=zq (show(Value.slice SX i sx).ownBlock≠some gl from by rw[<-hgl];exact HSO9.out.ne (Nat.le_refl _));have HM9:=zq (HM9.out.beside (.cells #[.int .i64 D,.int .i64 rt] 66));have HPO9:=zq (HPO9.out.under ((Below.refl _ _).alloc (Nat.le_refl _) (.cells #[.int .i64 D,.int .i64 rt] 66)));have HSO9:=zq (HSO9.out.under ((Below.refl _ _).alloc (Nat.le_refl _) (.cells #[.int .i64 D,.int .i64 rt] 66)));refine wpAnyH_more11 (T:=(fun W_=>(Has W_ (w.heap.size) 27 (tpC t a))/\(W_.cell? ⟨gm,2,none⟩=some (.slice PX3 pn3 px3))/\(Has W_ (gr) 75 #[.int .i64 ri,.slice RA rn rc,.int .i64 rg,.int .i64 rt])/\(Has W_ (gP) 51 #[.int .i64 pe,.int .i64 pa,.bool pr])/\(Has W_ (gfr) 30 #[.int .i64 xe,.bool xr])/\(Below wa.heap.size wa W_)/\(Has W_ (gl) 66 #[.int .i64 D,.int .i64 rt]))) (fun _ ⟨s0,s1,s2,s3,s4,s5,s6⟩=>⟨s0,s1,s2,s3,s4,s5⟩) ?_;have hHeld2:(fun W_=>(Has W_ (w.heap.size) 27 (tpC t a))/\(W_.cell? ⟨gm,2,none⟩=some (.slice PX3 pn3 px3))/\(Has W_ (gr) 75 #[.int .i64 ri,.slice RA rn rc,.int .i64 rg,.int .i64 rt])/\(Has W_ (gP) 51 #[.int .i64 pe,.int .i64 pa,.bool pr])/\(Has W_ (gfr) 30 #[.int .i64 xe,.bool xr])/\(Below wa.heap.size wa W_)/\(Has W_ (gl) 66 #[.int .i64 D,.int .i64 rt])) _:=⟨s0.beside _,((bA).cell (cell_block s1)).trans s1,s2.beside _,s3.beside _,s4.beside _,below_al11 s5 _,(by rw[<-hgl];exact Has.made _ _ _)⟩
     clear hHeld;have hHeld:=hHeld2;clear hHeld2;clear hK K hgl s0 s1 s2 s3 s4 s5
    case' zb5=>
     go_simp;obtain⟨s0,s1,s2,s3,s4,s5⟩:=hHeld;obtain⟨gl,hgl⟩:=geZ (q2.heap.size);have p0_gl:w.heap.size<gl:=by rw[<-hgl];exact s0.lt
     have p2_gl:gr<gl:=by rw[<-hgl];exact s2.lt
     have p3_gl:gP<gl:=by rw[<-hgl];exact s3.lt
     have p4_gl:gfr<gl:=by rw[<-hgl];exact s4.lt
     have p5_gl:wa.heap.size<=gl:=by rw[<-hgl];exact s5.size
     rw[hgl];refine hK.out _ _ ?_ (fun hHeld=>?_)
     ·exact⟨s0.beside _,((bA).cell (cell_block s1)).trans s1,s2.beside _,s3.beside _,s4.beside _,below_al11 s5 _⟩
     have HNL:=zq (show(Value.slice SX i sx).ownBlock≠some gl from by rw[<-hgl];exact HSO9.out.ne (Nat.le_refl _));have HM9:=zq (HM9.out.beside (.cells #[.int .i64 D,.int .i64 rt] 66));have HPO9:=zq (HPO9.out.under ((Below.refl _ _).alloc (Nat.le_refl _) (.cells #[.int .i64 D,.int .i64 rt] 66)));have HSO9:=zq (HSO9.out.under ((Below.refl _ _).alloc (Nat.le_refl _) (.cells #[.int .i64 D,.int .i64 rt] 66)));refine wpAnyH_more11 (T:=(fun W_=>(Has W_ (w.heap.size) 27 (tpC t a))/\(W_.cell? ⟨gm,2,none⟩=some (.slice PX3 pn3 px3))/\(Has W_ (gr) 75 #[.int .i64 ri,.slice RA rn rc,.int .i64 rg,.int .i64 rt])/\(Has W_ (gP) 51 #[.int .i64 pe,.int .i64 pa,.bool pr])/\(Has W_ (gfr) 30 #[.int .i64 xe,.bool xr])/\(Below wa.heap.size wa W_)/\(Has W_ (gl) 66 #[.int .i64 D,.int .i64 rt]))) (fun _ ⟨s0,s1,s2,s3,s4,s5,s6⟩=>⟨s0,s1,s2,s3,s4,s5⟩) ?_;have hHeld2:(fun W_=>(Has W_ (w.heap.size) 27 (tpC t a))/\(W_.cell? ⟨gm,2,none⟩=some (.slice PX3 pn3 px3))/\(Has W_ (gr) 75 #[.int .i64 ri,.slice RA rn rc,.int .i64 rg,.int .i64 rt])/\(Has W_ (gP) 51 #[.int .i64 pe,.int .i64 pa,.bool pr])/\(Has W_ (gfr) 30 #[.int .i64 xe,.bool xr])/\(Below wa.heap.size wa W_)/\(Has W_ (gl) 66 #[.int .i64 D,.int .i64 rt])) _:=⟨s0.beside _,((bA).cell (cell_block s1)).trans s1,s2.beside _,s3.beside _,s4.beside _,below_al11 s5 _,(by rw[<-hgl];exact Has.made _ _ _)⟩
     clear hHeld;have hHeld:=hHeld2;clear hHeld2;clear hK K hgl s0 s1 s2 s3 s4 s5
     try simp only[lyZ]
     refine aoZ 1 (some 63) (fun K hK=>?_);skip;obtain⟨s0,s1,s2,s3,s4,s5,s6⟩:=hHeld;have q_:=HM9.out.cell 3;go_simp;clear q_;refine hK.out _ _ ?_ (fun hHeld=>?_)
     ·exact⟨s0,s1,s2,s3,s4,s5,s6⟩
     clear hK K s0 s1 s2 s3 s4 s5 s6
    all_goals
     try simp only[lyZ]
     refine aoZ 14 (some 76) (fun K hK=>?_);skip;obtain⟨s0,s1,s2,s3,s4,s5,s6⟩:=hHeld;obtain⟨hO,hSL,h1,hBD⟩:=pourR 16 HSO9.out (⟨rfl,sl_hasR s6 rfl⟩:SlO scC17 2 _ (some ⟨gl,0,none⟩) 1 1 [⟨D,rt⟩]) one_sc17 s5.size (by have h1_:=HIN.out;have h2_:=HCN.out;omega) (by omega);refine step_pour17 (o:=⟨some 76,_,_,_,_,_⟩) (by rfl) (.tmp 63) (.tmp 75) 36 (by rfl) wa.heap.size 66 (.agg #[.int .i64 0,.int .i64 0]) 2 16 Tryz.underlying36 info_sect17 (by rfl) (by decide) SX i sx _ (by rfl) hO (some ⟨gl,0,none⟩) 1 1 _ (by rfl) hSL h1 hBD ?_;intro X3 x3 u3 ho hg h5;have hs0:=s0.grow hg.out (Ne.symm (HSO9.out.apart s0 (by decide)));have hs1:=hg.out.cell s1 (Ne.symm (HSO9.out.apart HM9.out (by decide)));have hs2:=s2.grow hg.out (Ne.symm (HSO9.out.apart s2 (by decide)));have hs3:=s3.grow hg.out (Ne.symm (HSO9.out.apart s3 (by decide)));have hs4:=s4.grow hg.out (Ne.symm (HSO9.out.apart s4 (by decide)));have hs5:=below_own s5 s5.size hO.out (Nat.le_refl _) rfl hg.out;have hs6:=s6.grow hg.out (Ne.symm HNL.out);have HM9:=zq (HM9.out.grow hg.out (Ne.symm (HSO9.out.apart HM9.out (by decide))));have HPO9:=zq (HPO9.out.kept hg.out (OwR.two HPO9.out HSO9.out (by decide)));have HSO9:=zq (OwR.poured (l':=[⟨D,rt⟩]) HSO9.out.2 rfl ho.out);refine hK.out _ _ ?_ (fun hHeld=>?_)
     ·exact⟨hs0,hs1,hs2,hs3,hs4,hs5,hs6⟩
     clear hK K s0 s1 s2 s3 s4 s5 s6
     try simp only[lyZ]
     refine tkZ 15 77 (h:=?_);simp only[lyZ];refine aoZ 16 none (fun K hK=>?_);rw[if_pos (by rfl)];obtain⟨s0,s1,s2,s3,s4,s5,s6⟩:=hHeld;refine wp_store_cell17 36 _ _ rfl (gm) 3 (.slice X3 (i+1) x3) (by rfl) (by rfl) 38 #[.int .i64 ref,.bool rev,.slice PX3 pn3 px3,.slice SX i sx,.int .i64 G] HM9.out (Nat.le_of_ble_eq_true rfl) (by kernel_rfl) rfl #[.int .i64 ref,.bool rev,.slice PX3 pn3 px3,.slice X3 (i+1) x3,.int .i64 G] rfl ?_;have HPO9:=zq (HPO9.out.kept (only_row11 _ _ #[.int .i64 ref,.bool rev,.slice PX3 pn3 px3,.slice X3 (i+1) x3,.int .i64 G]) (.inr (HPO9.out.apart HM9.out (by decide))));have HSO9:=zq (HSO9.out.kept (only_row11 _ _ #[.int .i64 ref,.bool rev,.slice PX3 pn3 px3,.slice X3 (i+1) x3,.int .i64 G]) (.inr (HSO9.out.apart HM9.out (by decide))));refine hK.out _ _ ?_ (fun hHeld=>?_)
     ·exact⟨has_rowo11 s0 (by omega) _,(has_row11 HM9.out #[.int .i64 ref,.bool rev,.slice PX3 pn3 px3,.slice X3 (i+1) x3,.int .i64 G]).cell 2,has_rowo11 s2 (by omega) _,has_rowo11 s3 (by omega) _,has_rowo11 s4 (by omega) _,below_row s5 (by omega) _,has_rowo11 s6 (by omega) _⟩
     have HM9:=zq (has_row11 HM9.out #[.int .i64 ref,.bool rev,.slice PX3 pn3 px3,.slice X3 (i+1) x3,.int .i64 G]);clear hK K s0 s1 s2 s3 s4 s5 s6
     try simp only[Act.put]
     refine dnZ ?_;go_wp2_with fail;go_meet
     exact⟨rfl,X3,x3,HM9.out,hHeld.2.2.2.2.1,HPO9.out,HSO9.out,hHeld.2.2.1,hHeld.2.2.2.1,hHeld.2.2.2.2.2.1⟩
   exact AllReadyH.nil
  exact AllReadyH.nil
 obtain⟨rfl,SX3,sx3,hm_,hf_,hpo_,hso_,hr_,hp_,hb_⟩:=hcut;obtain⟨w10,hw10⟩: ∃u,u=wc:=⟨_,rfl⟩
 subst hw10;have e2:w10.cell? ⟨gr,2,none⟩=some (.int .i64 rg):=hr_.cell 2;have HM10:=zq hm_;have HMN:=zq (has_row11 hm_ #[.int .i64 ref,.bool rev,.slice PX3 pn3 px3,.slice SX3 (i+1) sx3,.int .i64 rg]);have HFN:=zq (has_rowo11 (g:=gm) hf_ (by omega) #[.int .i64 ref,.bool rev,.slice PX3 pn3 px3,.slice SX3 (i+1) sx3,.int .i64 rg]);have HPN_:=zq (has_rowo11 (g:=gm) hp_ (by omega) #[.int .i64 ref,.bool rev,.slice PX3 pn3 px3,.slice SX3 (i+1) sx3,.int .i64 rg]);have HPON:=zq (hpo_.kept (only_row11 w10 gm #[.int .i64 ref,.bool rev,.slice PX3 pn3 px3,.slice SX3 (i+1) sx3,.int .i64 rg]) (.inr (hpo_.apart hm_ (by decide))));have HSON:=zq (hso_.kept (only_row11 w10 gm #[.int .i64 ref,.bool rev,.slice PX3 pn3 px3,.slice SX3 (i+1) sx3,.int .i64 rg]) (.inr (hso_.apart hm_ (by decide))));have HBN_:=zq (show Below wa.heap.size wa (w10.setRow gm #[.int .i64 ref,.bool rev,.slice PX3 pn3 px3,.slice SX3 (i+1) sx3,.int .i64 rg])from below_row hb_ (by omega) _);rw[<-HP3.out]at HPON;rw[<-HAN.out]at HSON;clear hm_ hf_ hpo_ hso_ hr_ hp_ hb_ HM9 HF9 HPO9 HSO9 HR9 HP9 HB9;go_wp2_with (with_reducible refine wpList_store_cell17 (o:=⟨none,_,_,_,_,_⟩) rfl 3 _ _ rfl (gm) 4 (.int .i64 rg) rfl rfl 38 #[.int .i64 ref,.bool rev,.slice PX3 pn3 px3,.slice SX3 (i+1) sx3,.int .i64 G] HM10.out (Nat.le_of_ble_eq_true rfl) (by kernel_rfl) rfl #[.int .i64 ref,.bool rev,.slice PX3 pn3 px3,.slice SX3 (i+1) sx3,.int .i64 rg] rfl ?_);go_roundg (k1-1)
 case measure=>have:=HIN.out;omega
 case rel=>exact⟨i+1,PX3,pn3,px3,SX3,sx3,rg,by have:=HIN.out;omega,by have:=HIN.out;omega,by first|go_num|(rw[IntWalk.wrap64_in _ (by have h1_:=HIN.out;have h2_:=HCN.out;omega)];go_num),zq HGS.out.symm,HMN,HFN,HNE9,HPON,HSON,HTN,HPN_,HBN_⟩
end
section
open Go.RowKit
open Go.Great
theorem bad_own17 {n G:Int}{raw:List Sc3}{m:Nat}{z:Sc3}(hm:raw.length=m+1)(hz:(lessB G raw)[m]?=some z):
  (m=0->badB n G raw=decide (z.to_<=n))/\ ∀(j:Nat) (y:Sc3),m=j+1->(lessB G raw)[j]?=some y->badB n G raw=(decide (z.to_<=n)||decide (z.to_<=y.to_)):=by
 have hd:raw.dropLast.length=m:=by rw[List.length_dropLast,hm];rfl
 unfold lessB at hz⊢;rw[List.getElem?_append_right (by omega),hd,Nat.sub_self]at hz;injection hz with hz
 subst hz;dsimp only;refine⟨fun h0=>?_,fun j y hj hy=>?_⟩
 ·unfold badB
  have h1:raw.dropLast=[]:=List.eq_nil_of_length_eq_zero (by omega);rw[h1];simp
 ·unfold badB
  rw[List.getElem?_append_left (by omega)]at hy;have h1:raw.dropLast.getLast?=some y:=by rw[List.getLast?_eq_getElem?,hd,hj];exact hy
  rw[h1]
theorem from_own17 {L:List Sc3}{y:Sc3}(h:L[0]?=some y):fromOne L=if y.to_=0 then L.drop 1 else L:=by
 cases L with
 |nil=>cases h
 |cons x r=>
  injection h with h
  subst h;exact fromOne_cons x r
theorem build_err17 {t:Tp3}{l:List Lc3}{train ref:Int}{rev:Bool}{n:Int}(h:(locE t ref rev n).2≠0):buildE t l train ref rev n=(noMa,(locE t ref rev n).2):=by
 unfold buildE;rw[if_pos h]
theorem build_go17 {t:Tp3}{l c:List Lc3}{train ref:Int}{rev:Bool}{n:Int}{x p:Ps3}(hl:locE t ref rev n=(x,0))(hp:placeM t ⟨ref,rev,[],[],0⟩=p)(hc:chainL t l train (stepP x)=c):
  buildE t l train ref rev n=if c.isEmpty=true then(noMa,4)else if(decide (24<(fullB t (goneL t p n) (stepP x) c).length)||twiceB (fullB t (goneL t p n) (stepP x) c))=true then(noMa,2)
   else if badB n (gapC t c) (rawB t (intoP t p) (goneL t p n) (stepP x) c)=true then(noMa,141)else(⟨ref,rev,fullB t (goneL t p n) (stepP x) c,fromOne (lessB (gapC t c) (rawB t (intoP t p) (goneL t p n) (stepP x) c)),gapC t c⟩,0):=by
 unfold buildE;rw[hl];dsimp only;rw[if_neg (by simp),hp,hc]
theorem raw_len17 {t:Tp3}{b0:Int}{g:List St3}{s:St3}(c:List Lc3):(rawB t b0 g s c).length=c.length:=by
 have h: ∀(r:List Lc3) (g:List St3),(buildGo t b0 g r).length=r.length:=fun r=>by
  induction r with
  |nil=>intro g;rfl
  |cons k r ih=>intro g;rw[buildGo,List.length_cons,List.length_cons,ih]
 cases c with
 |nil=>rfl
 |cons k r=>rw[rawB,List.length_cons,List.length_cons,h]
theorem opn_build (t:Tp3)(a:TpA)(l:List Lc3)(train ref:Int)(rev:Bool)(n:Int)(A:Option Addr)(nl c:Nat)(w:World)(ht:TopR w t a)(hl:lightT t=true)(hcj:t.joints.length<=a.cj)(hs:SlO lcC 3 w A nl c l)(hc:nl<=c)(hn:nl<=100):Calls Tryz.prog 14 #[.agg (tpC t a),.slice A nl c,.int .i64 train,.int .i64 ref,.bool rev,.int .i64 n] w fun r w'=> ∃b,r= .returned (.tuple #[.agg (maC (buildE t l train ref rev n).1 b),.int .i64 (buildE t l train ref rev n).2])/\MaR w' (buildE t l train ref rev n).1 b/\Below w.heap.size w w':=by
 have HLO:=zq (fun W (hW:Below w.heap.size w W)=>opl_locate0 t a ref rev n W (ht.under hW) hl hcj);have HCH:=zq (fun W (hW:Below w.heap.size w W) s=>opn_chain t a l train s A nl c W (ht.under hW) hl hcj (hs.under hW) hc hn);have HAU:=zq (fun W (hW:Below w.heap.size w W) c x p A cn cc hs hcp hc0 hc8 hloc hw=>opauth_any t a l c train ref rev n x p A cn cc W (ht.under hW) hl hcj hs hcp hc0 hc8 hloc hw);obtain⟨M,E,hB⟩: ∃M e,buildE t l train ref rev n=(M,e):=⟨_,_,rfl⟩
 have HBE:=zq hB;rw[hB];dsimp only;obtain⟨x,e,hloc⟩: ∃x e,locE t ref rev n=(x,e):=⟨_,_,rfl⟩
 have HLOC:=zq hloc;rw[hloc]at HLO;obtain⟨xe,xa,xr⟩:=x;unfold psA at HLO;dsimp only at HLO;obtain⟨wa,hwa,hbwa,HWA,HBWA,h0,h1⟩:=bx2Z w 27 (tpC t a) 38 #[.int .i64 0,.bool false,.slice none 0 0,.slice none 0 0,.int .i64 0];have H0:=zH h0;have H1:=zH h1;have HSO:=zq (fun W=>opstep_any ⟨xe,xa,xr⟩ W);unfold psA stA13 stepP at HSO;dsimp only at HSO;have HLT:=zq hl;clear hwa hbwa h0 h1 ht hl hcj hs hc hn hB hloc;go_enter Tryz.func14,Tryz.ntmps14;go_upto_region 1 with fail;rw[HWA.out];clear HWA;go_wp2_with (with_reducible refine ldZ 20 (H0.out wa (Below.refl _ _)) ?_);refine(HLO.out wa HBWA.out).mono ?_;rintro e_ w1 ⟨rfl,hb1⟩;have HB1:=zq hb1;clear hb1;go_upto_region 2 with fail;obtain⟨w2,hw2⟩:=geZ (w1.alloc (.cells #[.int .i64 xe,.int .i64 xa,.bool xr] 51));rw[hw2];have HB2:=zq (show Below wa.heap.size wa w2 from by rw[<-hw2];exact HB1.out.alloc HB1.out.size _);have hH:Has w2 w1.heap.size 51 #[.int .i64 xe,.int .i64 xa,.bool xr]:=by rw[<-hw2];exact Has.made _ _ _
 obtain⟨gP,hgP⟩: ∃g,w1.heap.size=g:=⟨_,rfl⟩
 rw[hgP]at hH;simp only[hgP];have HHP:=zH hH;have HX2:=zq (fun W (hW:Below w2.heap.size w2 W)=>HB2.out.trans (hW.mono HB2.out.size));clear hw2 hH hgP HB1;by_cases z0:e=0;rotate_left
 ·have q0:(e !=0)=true:=by simp[z0]
  obtain⟨rfl,rfl⟩:M=noMa/\E=e:=by have h_:=HBE.out;rw[build_err17 (by rw[HLOC.out];exact z0),HLOC.out]at h_;injection h_ with h1_ h2_;exact⟨h1_.symm,h2_.symm⟩
  clear z0;have HZ:=zq (H1.out w2 HB2.out);have HR:=zq (has_row11 HZ.out #[.int .i64 0,.bool false,.slice none 0 0,.slice none 0 0,.int .i64 0]);have HBF:=zq (below_row (g:=w.heap.size+1) (HBWA.out.trans (HB2.out.mono HBWA.out.size)) (by omega) #[.int .i64 0,.bool false,.slice none 0 0,.slice none 0 0,.int .i64 0]);go_wp2_with (with_reducible refine stZ #[.int .i64 0,.bool false,.slice none 0 0,.slice none 0 0,.int .i64 0] HZ.out ?_);refine rtZ HR.out ?_;exact⟨⟨none,0,none,0⟩,rfl,⟨SlO.nil _ _ _,SlO.nil _ _ _,Nat.le_refl _,Nat.le_refl _,fun s hs=>by cases hs⟩,HBF.out⟩
 subst z0;have q0:((0:Int) !=0)=false:=rfl;obtain⟨p,hl0,hwk,hpl⟩:=loc_group17 HLOC.out;obtain⟨ch,hch⟩: ∃c,chainL t l train (stepP ⟨xe,xa,xr⟩)=c:=⟨_,rfl⟩
 have HCP:=zq (show ChainP t l train (stepP ⟨xe,xa,xr⟩) ch/\ch.length<=8 from by rw[<-hch];exact chain_p _ _ _ _);have HBE:=zq ((build_go17 HLOC.out hpl hch).symm.trans HBE.out);have HCS:=zq (fun W (hW:Below w.heap.size w W)=>HCH.out W hW (stepP ⟨xe,xa,xr⟩));rw[hch]at HCS;obtain⟨cn,hcn⟩: ∃m,ch.length=m:=⟨_,rfl⟩
 rw[hcn]at HCS HCP;have HCN:=zq hcn;have HL0:=zq hl0;have HWK:=zq hwk;unfold stA13 stepP at HCS;dsimp only at HCS;clear hl0 hwk hpl hch hcn HCH HLO;go_upto_region 4 with fail;clear q0;refine wp_region_held_drew (S:=(fun W_=>(Has W_ (w.heap.size) 27 (tpC t a))/\(Has W_ (gP) 51 #[.int .i64 xe,.int .i64 xa,.bool xr])/\(Below w2.heap.size w2 W_))) (by kernel_rfl) ?_ (fun hHeld=>?_)
 ·exact⟨(H0.out _ HB2.out).draw,(HHP.out _ (Below.refl _ _)).draw,below_dr11 (Below.refl _ _)⟩
 refine tlZ 0 31 w.heap.size (tpC t a) (fun _ ⟨h_,_,_⟩=>h_) (h:=?_);simp only[lyZ];refine tkZ 1 32 (h:=?_);simp only[lyZ];refine tkZ 2 33 (h:=?_);simp only[lyZ];refine tlZ 3 34 gP #[.int .i64 xe,.int .i64 xa,.bool xr] (fun _ ⟨_,h_,_⟩=>h_) (h:=?_);simp only[lyZ];refine aoZ 4 (some 35) (fun K hK=>?_);go_simp;obtain⟨s0,s1,s2⟩:=hHeld;refine(HSO.out _).mono ?_;rintro e_ q1 ⟨rfl,hb_⟩;go_wp2_with fail;refine hK.out _ _ ?_ (fun hHeld=>?_)
 ·exact⟨s0.u hb_,s1.u hb_,bu s2 hb_⟩
 clear hK K s0 s1 s2
 try simp only[lyZ]
 refine aoZ 5 (some 36) (fun K hK=>?_);go_simp;obtain⟨s0,s1,s2⟩:=hHeld;refine(HCS.out _ (HBWA.out.trans ((HX2.out _ s2).mono HBWA.out.size))).mono ?_;rintro e_ q2 ⟨CX,cx,rfl,hlk_,hb2_⟩;have HLK:=zq hlk_;go_wp2_with fail;refine hK.out _ _ ?_ (fun hHeld=>?_)
 ·exact⟨s0.u hb2_,s1.u hb2_,bu s2 hb2_⟩
 clear hK K s0 s1 s2
 try simp only[lyZ]
 refine tkZ 6 16 (h:=?_);simp only[lyZ];refine dnZ ?_;obtain⟨w3,hw3⟩: ∃u,u=q2:=⟨_,rfl⟩
 subst hw3;have HB3:=zq (HX2.out _ hHeld.2.2);clear hHeld HSO HCS HHP;by_cases z1:cn=0
 ·have q1:((cn:Int)==0)=true:=by simp[z1]
  have q2:(cn:Int)=0:=by omega
  have HCE:=zq (show ch=[]from List.eq_nil_of_length_eq_zero (by rw[HCN.out];exact z1));clear z1;obtain⟨rfl,rfl⟩:M=noMa/\E=4:=by have h_:=HBE.out;rw[if_pos (by rw[HCE.out];rfl)]at h_;injection h_ with h1_ h2_;exact⟨h1_.symm,h2_.symm⟩
  have HZ:=zq (H1.out w3 HB3.out);have HR:=zq (has_row11 HZ.out #[.int .i64 0,.bool false,.slice none 0 0,.slice none 0 0,.int .i64 0]);have HBF:=zq (below_row (g:=w.heap.size+1) (HBWA.out.trans (HB3.out.mono HBWA.out.size)) (by omega) #[.int .i64 0,.bool false,.slice none 0 0,.slice none 0 0,.int .i64 0]);go_wp2_with (with_reducible refine stZ #[.int .i64 0,.bool false,.slice none 0 0,.slice none 0 0,.int .i64 0] HZ.out ?_);refine rtZ HR.out ?_;exact⟨⟨none,0,none,0⟩,rfl,⟨SlO.nil _ _ _,SlO.nil _ _ _,Nat.le_refl _,Nat.le_refl _,fun s hs=>by cases hs⟩,HBF.out⟩
 have q1:((cn:Int)==0)=false:=by simp;omega
 have q2: ¬(cn:Int)=0:=by omega
 have HC0:=zq (show ch≠[]from fun h_=>by have h2_:=HCN.out;rw[h_]at h2_;simp at h2_;omega);have HBE:=zq (by have h_:=HBE.out;rw[if_neg (by cases hq_:ch with|nil=>exact absurd hq_ HC0.out|cons _ _=>simp)]at h_;exact h_);have HRL:=zq ((raw_len17 (t:=t) (b0:=intoP t p) (g:=goneL t p n) (s:=stepP ⟨xe,xa,xr⟩) ch).trans HCN.out);have HC1:=zq (show 1<=cn/\cn<=8 from by have:=HCP.out.2;omega);have HAW:=zq (HAU.out w3 (HBWA.out.trans (HB3.out.mono HBWA.out.size)) ch ⟨xe,xa,xr⟩ p CX cn cx HLK.out.1 HCP.out.1 HC0.out (by rw[HCN.out];exact HC1.out.2) HL0.out HWK.out);have HLL:=zq ((less_len17 (g:=gapC t ch) (l:=rawB t (intoP t p) (goneL t p n) (stepP ⟨xe,xa,xr⟩) ch) (fun e_=>by have h_:=HRL.out;rw[e_]at h_;simp at h_;have:=HC1.out;omega)).trans HRL.out);obtain⟨raw,hraw⟩: ∃r,rawB t (intoP t p) (goneL t p n) (stepP ⟨xe,xa,xr⟩) ch=r:=⟨_,rfl⟩
 obtain⟨PF,hPF⟩: ∃r,fullB t (goneL t p n) (stepP ⟨xe,xa,xr⟩) ch=r:=⟨_,rfl⟩
 obtain⟨G,hG⟩: ∃r,gapC t ch=r:=⟨_,rfl⟩
 rw[hraw]at HBE HRL HAW HLL;rw[hPF]at HBE HAW;rw[hG]at HBE HAW HLL;obtain⟨LF,hLF⟩: ∃r,lessB G raw=r:=⟨_,rfl⟩
 have HLF:=zq hLF;rw[hLF]at HBE HAW HLL;clear hraw hPF hG hLF z1 HCP HC0 HL0 HWK HAU HLK;go_upto_region 7 with fail;clear q1 q2;go_wp2_with (with_reducible refine ldZ 41 (H0.out w3 HB3.out) ?_);refine HAW.out.mono ?_;rintro e_ w4 ⟨b,rfl,hm4,hb4,hpo,hso⟩;obtain⟨AP,PC,AQ,CS⟩:=b;unfold maC;have hcP:=hm4.capP;have hcS:=hm4.capS;have htop:=hm4.top;dsimp only at hpo hso hcP hcS htop⊢;obtain⟨pn,hpn⟩: ∃m,PF.length=m:=⟨_,rfl⟩
 rw[hpn]at hpo hcP⊢;rw[HLL.out]at hso hcS⊢;have HG1:=zq (show w.heap.size+1<w3.heap.size from(H1.out w3 HB3.out).lt);have HPN:=zq hpn;have HB4:=tB HB3 hb4;clear hm4 hb4 hpn HAW HB3;obtain⟨k,hk⟩: ∃k,cn=k+1:=⟨cn-1,by have:=HC1.out;omega⟩
 subst hk;have HK8:=zq (show k<8 from by have:=HC1.out;omega);have hk8:k<8:=HK8.out;go_upto_region 8 with fail;obtain⟨w5,hw5⟩: ∃u,w4.alloc (.cells #[.int .i64 ref,.bool rev,.slice AP pn PC,.slice AQ (k+1) CS,.int .i64 G] 38)=u:=⟨_,rfl⟩
 rw[hw5];have hH5:Has w5 w4.heap.size 38 #[.int .i64 ref,.bool rev,.slice AP pn PC,.slice AQ (k+1) CS,.int .i64 G]:=by rw[<-hw5];exact Has.made _ _ _
 have hb5:Below w4.heap.size w4 w5:=by rw[<-hw5];exact bA
 obtain⟨gm,hgm⟩: ∃g,w4.heap.size=g:=⟨_,rfl⟩
 have hgm2:wa.heap.size<=gm:=by rw[<-hgm];exact HB4.out.size
 rw[hgm]at hH5;simp only[hgm];have HB5:=tB HB4 hb5;have HM5:=zH hH5;have HP5:=zq (fun W (hW:Below w5.heap.size w5 W)=>(hpo.under hb5).under hW);have HS5:=zq (fun W (hW:Below w5.heap.size w5 W)=>(hso.under hb5).under hW);have HX5:=zq (fun W (hW:Below w5.heap.size w5 W)=>HB5.out.trans (hW.mono HB5.out.size));have HCC:=zq (show pn<=PC/\k+1<=CS from⟨hcP,hcS⟩);have HTOP:=zq htop;clear hw5 hH5 hb5 hpo hso hcP hcS htop HB4 hgm;have m2:w5.cell? ⟨gm,2,none⟩=some (.slice AP pn PC):=(HM5.out w5 (Below.refl _ _)).cell 2;have m3:w5.cell? ⟨gm,3,none⟩=some (.slice AQ (k+1) CS):=(HM5.out w5 (Below.refl _ _)).cell 3;go_upto_region 9 with fail;by_cases z1:24<pn
 ·have z2:(24:Int)<pn:=by omega
  have HZ1:=zq z1;clear z1;obtain⟨rfl,rfl⟩:M=noMa/\E=2:=by have h_:=HBE.out;rw[if_pos (by rw[HPN.out,decide_eq_true HZ1.out];rfl)]at h_;injection h_ with h1_ h2_;exact⟨h1_.symm,h2_.symm⟩
  have HZ:=zq (H1.out w5 HB5.out);have HR:=zq (has_row11 HZ.out #[.int .i64 0,.bool false,.slice none 0 0,.slice none 0 0,.int .i64 0]);have HBF:=zq (below_row (g:=w.heap.size+1) (HBWA.out.trans (HB5.out.mono HBWA.out.size)) (by omega) #[.int .i64 0,.bool false,.slice none 0 0,.slice none 0 0,.int .i64 0]);go_wp2_with (with_reducible refine stZ #[.int .i64 0,.bool false,.slice none 0 0,.slice none 0 0,.int .i64 0] HZ.out ?_);refine rtZ HR.out ?_;exact⟨⟨none,0,none,0⟩,rfl,⟨SlO.nil _ _ _,SlO.nil _ _ _,Nat.le_refl _,Nat.le_refl _,fun s hs=>by cases hs⟩,HBF.out⟩
 have z2: ¬(24:Int)<pn:=by omega
 have HP24:=zq (show pn<=24 from by omega);clear z1;obtain⟨tw,htw⟩: ∃b,twiceB PF=b:=⟨_,rfl⟩
 have HRE:=zq (oprep_any PF AP pn PC w5 (HP5.out w5 (Below.refl _ _)).sl (by have:=HP24.out;omega) HCC.out.1);rw[htw]at HRE HBE;rw[HPN.out,decide_eq_false (show¬24<pn from by have:=HP24.out;omega),Bool.false_or]at HBE;clear htw;go_wp2_with fail;refine HRE.out.mono ?_;rintro e_ w6 ⟨rfl,hb6⟩;have HB6:=zq hb6;clear hb6 HRE m2 m3 z2
 cases tw with
 |true=>
  obtain⟨rfl,rfl⟩:M=noMa/\E=2:=by have h_:=HBE.out;rw[if_pos rfl]at h_;injection h_ with h1_ h2_;exact⟨h1_.symm,h2_.symm⟩
  have HZ:=zq (H1.out w6 (HX5.out w6 HB6.out));have HR:=zq (has_row11 HZ.out #[.int .i64 0,.bool false,.slice none 0 0,.slice none 0 0,.int .i64 0]);have HBF:=zq (below_row (g:=w.heap.size+1) (HBWA.out.trans ((HX5.out w6 HB6.out).mono HBWA.out.size)) (by omega) #[.int .i64 0,.bool false,.slice none 0 0,.slice none 0 0,.int .i64 0]);go_wp2_with (with_reducible refine stZ #[.int .i64 0,.bool false,.slice none 0 0,.slice none 0 0,.int .i64 0] HZ.out ?_);refine rtZ HR.out ?_;exact⟨⟨none,0,none,0⟩,rfl,⟨SlO.nil _ _ _,SlO.nil _ _ _,Nat.le_refl _,Nat.le_refl _,fun s hs=>by cases hs⟩,HBF.out⟩
 |false=>
 have HBE:=zq (by have h_:=HBE.out;rw[if_neg (by decide)]at h_;exact h_);obtain⟨z,hz⟩:=glZ LF (k) (by rw[HLL.out];omega);obtain⟨hbad0,hbad1⟩:=bad_own17 (n:=n) (G:=G) HRL.out (by rw[HLF.out];exact hz);rw[HLF.out]at hbad1;have HBD0:=zq hbad0;have HBD1:=zq hbad1;have m3:w6.cell? ⟨gm,3,none⟩=some (.slice AQ (k+1) CS):=(HM5.out w6 HB6.out).cell 3;obtain⟨bs,os,rfl,d0,-⟩:=(HS5.out w6 HB6.out).sl.sect hz;obtain⟨y0_,hy0⟩: ∃z,LF[0]?=some z:=⟨_,List.getElem?_eq_getElem (by rw[HLL.out];omega)⟩
 have HY0:=zq hy0;obtain⟨zt,hzt⟩: ∃q,z.to_=q:=⟨_,rfl⟩
 rw[hzt]at d0 hbad0 hbad1 HBD0 HBD1;have v1:(0:Int)<=(k:Int):=by omega
 have v2:(k:Int)<((k+1:Nat):Int):=by omega
 have v3:(k:Int).toNat=k:=by omega
 clear hz hzt hbad0 hbad1 hy0;go_upto_region 11 with fail;by_cases z3:zt<=n
 ·have HBAD:=zq (show badB n G raw=true from by
   rcases Nat.eq_zero_or_pos k with hk_|hk_
   ·rw[HBD0.out hk_,decide_eq_true z3]
   ·obtain⟨j_,hj_⟩: ∃j,k=j+1:=⟨k-1,by omega⟩
    obtain⟨y_,hy_⟩: ∃z,LF[j_]?=some z:=⟨_,List.getElem?_eq_getElem (by rw[HLL.out];omega)⟩
    rw[HBD1.out j_ y_ hj_ hy_,decide_eq_true z3,Bool.true_or])
  have z4:decide (zt<=n)=true:=decide_eq_true z3;go_quiet (fail);obtain⟨w7,hw7⟩: ∃u,w6.drewN nq=u:=⟨_,rfl⟩
  rw[hw7];have HB7:=zq (show Below w5.heap.size w5 w7 from by rw[<-hw7];exact below_draws HB6.out _);clear hw7;go_upto_region 12 with fail;obtain⟨rfl,rfl⟩:M=noMa/\E=141:=by have h_:=HBE.out;rw[if_pos HBAD.out]at h_;injection h_ with h1_ h2_;exact⟨h1_.symm,h2_.symm⟩
  have HZ:=zq (H1.out w7 (HX5.out w7 HB7.out));have HR:=zq (has_row11 HZ.out #[.int .i64 0,.bool false,.slice none 0 0,.slice none 0 0,.int .i64 0]);have HBF:=zq (below_row (g:=w.heap.size+1) (HBWA.out.trans ((HX5.out w7 HB7.out).mono HBWA.out.size)) (by omega) #[.int .i64 0,.bool false,.slice none 0 0,.slice none 0 0,.int .i64 0]);go_wp2_with (with_reducible refine stZ #[.int .i64 0,.bool false,.slice none 0 0,.slice none 0 0,.int .i64 0] HZ.out ?_);refine rtZ HR.out ?_;exact⟨⟨none,0,none,0⟩,rfl,⟨SlO.nil _ _ _,SlO.nil _ _ _,Nat.le_refl _,Nat.le_refl _,fun s hs=>by cases hs⟩,HBF.out⟩
 have z4:decide (zt<=n)=false:=decide_eq_false z3
 rcases Nat.eq_zero_or_pos k with hk_|hk_
 ·have HBAD:=zq (show badB n G raw=false from by rw[HBD0.out hk_,z4])
  have z6:decide (0<(k:Int))=false:=decide_eq_false (by omega);have z7:decide ((k:Int)>0)=false:=decide_eq_false (by omega);have z8:decide (0<k)=false:=decide_eq_false (by omega);have HK0:=zq hk_;clear HBD0 HBD1 hk_;go_quiet (fail);obtain⟨w7,hw7⟩: ∃u,w6.drewN nq=u:=⟨_,rfl⟩
  rw[hw7];have HB7:=zq (show Below w5.heap.size w5 w7 from by rw[<-hw7];exact below_draws HB6.out _);clear hw7;obtain⟨rfl,rfl⟩:M=⟨ref,rev,PF,fromOne LF,G⟩/\E=0:=by have h_:=HBE.out;rw[if_neg (by rw[HBAD.out];decide)]at h_;injection h_ with h1_ h2_;exact⟨h1_.symm,h2_.symm⟩
  obtain⟨y0,hy0⟩: ∃z,LF[0]?=some z:=⟨_,List.getElem?_eq_getElem (by rw[HLL.out];omega)⟩
  have HFO:=zq (from_own17 hy0);obtain⟨b0_,o0_,e0_,f0,-⟩:=(HS5.out w7 HB7.out).sl.sect hy0;injection e0_ with e0_
  injection e0_ with e1_ e2_ e3_
  subst e1_;obtain rfl:os=o0_:=by omega
  obtain⟨yt,hyt⟩: ∃q,y0.to_=q:=⟨_,rfl⟩
  rw[hyt]at f0 HFO;have f0':w7.cell? ⟨bs,os,none⟩=some (.int .i64 yt):=by rw[show os=os+0*2 by omega];exact f0
  clear hyt hy0 e2_ e3_ HBE;have u1:(0:Int)<((k+1:Nat):Int):=by omega
  go_upto_region 13 with fail;have m3:w7.cell? ⟨gm,3,none⟩=some (.slice (some ⟨bs,os,none⟩) (k+1) CS):=(HM5.out w7 HB7.out).cell 3;by_cases y1:yt=0
  ·have HFO:=zq (HFO.out.trans (if_pos y1))
   have y2:(yt==0)=true:=by simp[y1]
   have y3:decide (yt=0)=true:=decide_eq_true y1;have hcs:1<=k+1:=by omega
   have hcu: ∀W,(Instr.sliceAt 36 (.slice (some ⟨bs,os,none⟩) (k+1) CS) (some (.int .i64 1)) none none).run Tryz.prog W= .ok (.slice (if CS=1 then(some ⟨bs,os,none⟩:Option Addr)else(some ⟨bs,os,none⟩:Option Addr).map (·.add (1*2))) (k+1-1) (CS-1)) W:=fun W=>cut_from17 (P:=Tryz.prog) 2 36 66 Tryz.underlying36 (by kernel_rfl) (some ⟨bs,os,none⟩) (k+1) CS 1 hcs W;have HSQ:=zq (fun W (h_:SlO scC17 2 W (some ⟨bs,os,none⟩) (k+1) CS LF)=>h_.from17 (fun _=>rfl) HCC.out.2 hcs);obtain⟨A2,hA2⟩:=geZ ((if CS=1 then(some ⟨bs,os,none⟩:Option Addr)else(some ⟨bs,os,none⟩:Option Addr).map (·.add (1*2))));obtain⟨c2,hc2⟩: ∃m,CS-1=m:=⟨_,rfl⟩
   rw[hA2,hc2]at hcu HSQ;have HC2:=zq hc2;clear hA2 hc2 y1 hcs;have HM7:=zq (has_row11 (HM5.out w7 HB7.out) #[.int .i64 ref,.bool rev,.slice AP pn PC,.slice A2 k c2,.int .i64 G]);have HPW:=zq ((HP5.out w7 HB7.out).kept (only_row11 w7 gm #[.int .i64 ref,.bool rev,.slice AP pn PC,.slice A2 k c2,.int .i64 G]) (.inr ((HP5.out w7 HB7.out).apart (HM5.out w7 HB7.out) (by decide))));have HSW:=zq ((HS5.out w7 HB7.out).kept (only_row11 w7 gm #[.int .i64 ref,.bool rev,.slice AP pn PC,.slice A2 k c2,.int .i64 G]) (.inr ((HS5.out w7 HB7.out).apart (HM5.out w7 HB7.out) (by decide))));have HBW:=zq (below_row (g:=gm) (HX5.out w7 HB7.out) hgm2 #[.int .i64 ref,.bool rev,.slice AP pn PC,.slice A2 k c2,.int .i64 G]);obtain⟨w8,hw8⟩: ∃u,w7.setRow gm #[.int .i64 ref,.bool rev,.slice AP pn PC,.slice A2 k c2,.int .i64 G]=u:=⟨_,rfl⟩
   rw[hw8]at HM7 HPW HSW HBW;have HW8:=zq hw8;clear hw8;go_upto_region 14 with fail;go_upto_region 15 with(with_reducible refine wpList_store_cell17 (o:=⟨none,_,_,_,_,_⟩) rfl 36 _ _ rfl (gm) 3 ((.slice A2 k c2)) rfl rfl 38 #[.int .i64 ref,.bool rev,.slice AP pn PC,.slice (some ⟨bs,os,none⟩) (k+1) CS,.int .i64 G] (HM5.out w7 HB7.out) (Nat.le_of_ble_eq_true rfl) (by kernel_rfl) rfl #[.int .i64 ref,.bool rev,.slice AP pn PC,.slice A2 k c2,.int .i64 G] rfl ?_)
   rw[HW8.out];clear HW8;have HZ:=zq (H1.out _ HBW.out);have HR:=zq (has_row11 HZ.out #[.int .i64 ref,.bool rev,.slice AP pn PC,.slice A2 k c2,.int .i64 G]);have HBF:=zq (below_row (g:=w.heap.size+1) (HBWA.out.trans (HBW.out.mono HBWA.out.size)) (by omega) #[.int .i64 ref,.bool rev,.slice AP pn PC,.slice A2 k c2,.int .i64 G]);have HPF:=zq (HPW.out.rowlow17 HG1.out #[.int .i64 ref,.bool rev,.slice AP pn PC,.slice A2 k c2,.int .i64 G]);have HSF:=zq (HSW.out.rowlow17 HG1.out #[.int .i64 ref,.bool rev,.slice AP pn PC,.slice A2 k c2,.int .i64 G]);go_wp2_with (first|(with_reducible refine ldZ 102 HM7.out ?_)|(with_reducible refine stZ #[.int .i64 ref,.bool rev,.slice AP pn PC,.slice A2 k c2,.int .i64 G] HZ.out ?_));refine rtZ HR.out ?_;have hlf_:(fromOne LF).length=k:=by rw[HFO.out];first|exact HLL.out|(rw[List.length_drop,HLL.out];rfl)
   refine⟨⟨AP,PC,A2,c2⟩,by unfold maC;dsimp only;rw[HPN.out,hlf_];rfl,⟨?_,?_,?_,?_,fun s_ hs_=>HTOP.out s_ ?_⟩,HBF.out⟩
   ·show SlO stC 2 _ AP PF.length PC PF;rw[HPN.out];exact HPF.out.sl
   ·show SlO scC17 2 _ (A2) (fromOne LF).length c2 (fromOne LF);rw[hlf_,HFO.out];exact HSQ.out _ HSF.out.sl
   ·show PF.length<=PC;rw[HPN.out];exact HCC.out.1
   ·show(fromOne LF).length<=c2;rw[hlf_];have h_:=HCC.out.2;first|omega|(have h2_:=HC2.out;omega)
   ·have h_:s_∈fromOne LF:=hs_
    rw[HFO.out]at h_
    first|exact h_|exact List.drop_subset _ _ h_
  ·have HFO:=zq (HFO.out.trans (if_neg y1))
   have y2:(yt==0)=false:=by simp[y1]
   have y3:decide (yt=0)=false:=decide_eq_false y1;clear y1;have HPW:=HP5.out w7 HB7.out;have HPW:=zq HPW;have HSW:=HS5.out w7 HB7.out;have HSW:=zq HSW;have HZ:=zq (H1.out _ (HX5.out w7 HB7.out));go_upto_region 15 with fail;have HR:=zq (has_row11 HZ.out #[.int .i64 ref,.bool rev,.slice AP pn PC,.slice (some ⟨bs,os,none⟩) (k+1) CS,.int .i64 G]);have HBF:=zq (below_row (g:=w.heap.size+1) (HBWA.out.trans ((HX5.out w7 HB7.out).mono HBWA.out.size)) (by omega) #[.int .i64 ref,.bool rev,.slice AP pn PC,.slice (some ⟨bs,os,none⟩) (k+1) CS,.int .i64 G]);have HPF:=zq (HPW.out.rowlow17 HG1.out #[.int .i64 ref,.bool rev,.slice AP pn PC,.slice (some ⟨bs,os,none⟩) (k+1) CS,.int .i64 G]);have HSF:=zq (HSW.out.rowlow17 HG1.out #[.int .i64 ref,.bool rev,.slice AP pn PC,.slice (some ⟨bs,os,none⟩) (k+1) CS,.int .i64 G]);go_wp2_with (first|(with_reducible refine ldZ 102 (HM5.out w7 HB7.out) ?_)|(with_reducible refine stZ #[.int .i64 ref,.bool rev,.slice AP pn PC,.slice (some ⟨bs,os,none⟩) (k+1) CS,.int .i64 G] HZ.out ?_));refine rtZ HR.out ?_;have hlf_:(fromOne LF).length=k+1:=by rw[HFO.out];first|exact HLL.out|(rw[List.length_drop,HLL.out];rfl)
   refine⟨⟨AP,PC,some ⟨bs,os,none⟩,CS⟩,by unfold maC;dsimp only;rw[HPN.out,hlf_];rfl,⟨?_,?_,?_,?_,fun s_ hs_=>HTOP.out s_ ?_⟩,HBF.out⟩
   ·show SlO stC 2 _ AP PF.length PC PF;rw[HPN.out];exact HPF.out.sl
   ·show SlO scC17 2 _ (some ⟨bs,os,none⟩) (fromOne LF).length CS (fromOne LF);rw[hlf_,HFO.out];exact HSF.out.sl
   ·show PF.length<=PC;rw[HPN.out];exact HCC.out.1
   ·show(fromOne LF).length<=CS;rw[hlf_];have h_:=HCC.out.2;first|omega|(have h2_:=HC2.out;omega)
   ·have h_:s_∈fromOne LF:=hs_
    rw[HFO.out]at h_
    first|exact h_|exact List.drop_subset _ _ h_
 ·obtain⟨j,hj⟩: ∃j,k=j+1:=⟨k-1,by omega⟩
  subst hj;obtain⟨y,hy⟩: ∃z,LF[j]?=some z:=⟨_,List.getElem?_eq_getElem (by rw[HLL.out];omega)⟩
  have HBD:=zq (HBD1.out j y rfl hy);obtain⟨b1_,o1_,e0_,d1,-⟩:=(HS5.out w6 HB6.out).sl.sect hy;injection e0_ with e0_
  injection e0_ with e1_ e2_ e3_
  subst e1_;obtain rfl:os=o1_:=by omega
  obtain⟨yt,hyt⟩: ∃q,y.to_=q:=⟨_,rfl⟩
  rw[hyt]at d1 HBD;clear hyt hy e2_ e3_ HBD0 HBD1;have u3:(0:Int)<=(j:Int):=by omega
  have u4:(j:Int)<((j+1+1:Nat):Int):=by omega
  by_cases z5:zt<=yt
  ·have HBAD:=zq (show badB n G raw=true from by rw[HBD.out,decide_eq_true z5,Bool.or_true])
   have z6:decide (zt<=yt)=true:=decide_eq_true z5;go_quiet (fail);obtain⟨w7,hw7⟩: ∃u,w6.drewN nq=u:=⟨_,rfl⟩
   rw[hw7];have HB7:=zq (show Below w5.heap.size w5 w7 from by rw[<-hw7];exact below_draws HB6.out _);clear hw7;go_upto_region 12 with fail;obtain⟨rfl,rfl⟩:M=noMa/\E=141:=by have h_:=HBE.out;rw[if_pos HBAD.out]at h_;injection h_ with h1_ h2_;exact⟨h1_.symm,h2_.symm⟩
   have HZ:=zq (H1.out w7 (HX5.out w7 HB7.out));have HR:=zq (has_row11 HZ.out #[.int .i64 0,.bool false,.slice none 0 0,.slice none 0 0,.int .i64 0]);have HBF:=zq (below_row (g:=w.heap.size+1) (HBWA.out.trans ((HX5.out w7 HB7.out).mono HBWA.out.size)) (by omega) #[.int .i64 0,.bool false,.slice none 0 0,.slice none 0 0,.int .i64 0]);go_wp2_with (with_reducible refine stZ #[.int .i64 0,.bool false,.slice none 0 0,.slice none 0 0,.int .i64 0] HZ.out ?_);refine rtZ HR.out ?_;exact⟨⟨none,0,none,0⟩,rfl,⟨SlO.nil _ _ _,SlO.nil _ _ _,Nat.le_refl _,Nat.le_refl _,fun s hs=>by cases hs⟩,HBF.out⟩
  have HBAD:=zq (show badB n G raw=false from by rw[HBD.out,decide_eq_false z5,z4];rfl);have z6:decide (zt<=yt)=false:=decide_eq_false z5;go_quiet (fail);obtain⟨w7,hw7⟩: ∃u,w6.drewN nq=u:=⟨_,rfl⟩
  rw[hw7];have HB7:=zq (show Below w5.heap.size w5 w7 from by rw[<-hw7];exact below_draws HB6.out _);clear hw7;obtain⟨rfl,rfl⟩:M=⟨ref,rev,PF,fromOne LF,G⟩/\E=0:=by have h_:=HBE.out;rw[if_neg (by rw[HBAD.out];decide)]at h_;injection h_ with h1_ h2_;exact⟨h1_.symm,h2_.symm⟩
  obtain⟨y0,hy0⟩: ∃z,LF[0]?=some z:=⟨_,List.getElem?_eq_getElem (by rw[HLL.out];omega)⟩
  have HFO:=zq (from_own17 hy0);obtain⟨b0_,o0_,e0_,f0,-⟩:=(HS5.out w7 HB7.out).sl.sect hy0;injection e0_ with e0_
  injection e0_ with e1_ e2_ e3_
  subst e1_;obtain rfl:os=o0_:=by omega
  obtain⟨yt,hyt⟩: ∃q,y0.to_=q:=⟨_,rfl⟩
  rw[hyt]at f0 HFO;have f0':w7.cell? ⟨bs,os,none⟩=some (.int .i64 yt):=by rw[show os=os+0*2 by omega];exact f0
  clear hyt hy0 e2_ e3_ HBE;have u1:(0:Int)<((j+1+1:Nat):Int):=by omega
  go_upto_region 13 with fail;have m3:w7.cell? ⟨gm,3,none⟩=some (.slice (some ⟨bs,os,none⟩) (j+1+1) CS):=(HM5.out w7 HB7.out).cell 3;by_cases y1:yt=0
  ·have HFO:=zq (HFO.out.trans (if_pos y1))
   have y2:(yt==0)=true:=by simp[y1]
   have y3:decide (yt=0)=true:=decide_eq_true y1;have hcs:1<=j+1+1:=by omega
   have hcu: ∀W,(Instr.sliceAt 36 (.slice (some ⟨bs,os,none⟩) (j+1+1) CS) (some (.int .i64 1)) none none).run Tryz.prog W= .ok (.slice (if CS=1 then(some ⟨bs,os,none⟩:Option Addr)else(some ⟨bs,os,none⟩:Option Addr).map (·.add (1*2))) (j+1+1-1) (CS-1)) W:=fun W=>cut_from17 (P:=Tryz.prog) 2 36 66 Tryz.underlying36 (by kernel_rfl) (some ⟨bs,os,none⟩) (j+1+1) CS 1 hcs W;have HSQ:=zq (fun W (h_:SlO scC17 2 W (some ⟨bs,os,none⟩) (j+1+1) CS LF)=>h_.from17 (fun _=>rfl) HCC.out.2 hcs);obtain⟨A2,hA2⟩:=geZ ((if CS=1 then(some ⟨bs,os,none⟩:Option Addr)else(some ⟨bs,os,none⟩:Option Addr).map (·.add (1*2))));obtain⟨c2,hc2⟩: ∃m,CS-1=m:=⟨_,rfl⟩
   rw[hA2,hc2]at hcu HSQ;have HC2:=zq hc2;clear hA2 hc2 y1 hcs;have HM7:=zq (has_row11 (HM5.out w7 HB7.out) #[.int .i64 ref,.bool rev,.slice AP pn PC,.slice A2 (j+1) c2,.int .i64 G]);have HPW:=zq ((HP5.out w7 HB7.out).kept (only_row11 w7 gm #[.int .i64 ref,.bool rev,.slice AP pn PC,.slice A2 (j+1) c2,.int .i64 G]) (.inr ((HP5.out w7 HB7.out).apart (HM5.out w7 HB7.out) (by decide))));have HSW:=zq ((HS5.out w7 HB7.out).kept (only_row11 w7 gm #[.int .i64 ref,.bool rev,.slice AP pn PC,.slice A2 (j+1) c2,.int .i64 G]) (.inr ((HS5.out w7 HB7.out).apart (HM5.out w7 HB7.out) (by decide))));have HBW:=zq (below_row (g:=gm) (HX5.out w7 HB7.out) hgm2 #[.int .i64 ref,.bool rev,.slice AP pn PC,.slice A2 (j+1) c2,.int .i64 G]);obtain⟨w8,hw8⟩: ∃u,w7.setRow gm #[.int .i64 ref,.bool rev,.slice AP pn PC,.slice A2 (j+1) c2,.int .i64 G]=u:=⟨_,rfl⟩
   rw[hw8]at HM7 HPW HSW HBW;have HW8:=zq hw8;clear hw8;go_upto_region 14 with fail;go_upto_region 15 with(with_reducible refine wpList_store_cell17 (o:=⟨none,_,_,_,_,_⟩) rfl 36 _ _ rfl (gm) 3 ((.slice A2 (j+1) c2)) rfl rfl 38 #[.int .i64 ref,.bool rev,.slice AP pn PC,.slice (some ⟨bs,os,none⟩) (j+1+1) CS,.int .i64 G] (HM5.out w7 HB7.out) (Nat.le_of_ble_eq_true rfl) (by kernel_rfl) rfl #[.int .i64 ref,.bool rev,.slice AP pn PC,.slice A2 (j+1) c2,.int .i64 G] rfl ?_)
   rw[HW8.out];clear HW8;have HZ:=zq (H1.out _ HBW.out);have HR:=zq (has_row11 HZ.out #[.int .i64 ref,.bool rev,.slice AP pn PC,.slice A2 (j+1) c2,.int .i64 G]);have HBF:=zq (below_row (g:=w.heap.size+1) (HBWA.out.trans (HBW.out.mono HBWA.out.size)) (by omega) #[.int .i64 ref,.bool rev,.slice AP pn PC,.slice A2 (j+1) c2,.int .i64 G]);have HPF:=zq (HPW.out.rowlow17 HG1.out #[.int .i64 ref,.bool rev,.slice AP pn PC,.slice A2 (j+1) c2,.int .i64 G]);have HSF:=zq (HSW.out.rowlow17 HG1.out #[.int .i64 ref,.bool rev,.slice AP pn PC,.slice A2 (j+1) c2,.int .i64 G]);go_wp2_with (first|(with_reducible refine ldZ 102 HM7.out ?_)|(with_reducible refine stZ #[.int .i64 ref,.bool rev,.slice AP pn PC,.slice A2 (j+1) c2,.int .i64 G] HZ.out ?_));refine rtZ HR.out ?_;have hlf_:(fromOne LF).length=(j+1):=by rw[HFO.out];first|exact HLL.out|(rw[List.length_drop,HLL.out];rfl)
   refine⟨⟨AP,PC,A2,c2⟩,by unfold maC;dsimp only;rw[HPN.out,hlf_];rfl,⟨?_,?_,?_,?_,fun s_ hs_=>HTOP.out s_ ?_⟩,HBF.out⟩
   ·show SlO stC 2 _ AP PF.length PC PF;rw[HPN.out];exact HPF.out.sl
   ·show SlO scC17 2 _ (A2) (fromOne LF).length c2 (fromOne LF);rw[hlf_,HFO.out];exact HSQ.out _ HSF.out.sl
   ·show PF.length<=PC;rw[HPN.out];exact HCC.out.1
   ·show(fromOne LF).length<=c2;rw[hlf_];have h_:=HCC.out.2;first|omega|(have h2_:=HC2.out;omega)
   ·have h_:s_∈fromOne LF:=hs_
    rw[HFO.out]at h_
    first|exact h_|exact List.drop_subset _ _ h_
  ·have HFO:=zq (HFO.out.trans (if_neg y1))
   have y2:(yt==0)=false:=by simp[y1]
   have y3:decide (yt=0)=false:=decide_eq_false y1;clear y1;have HPW:=HP5.out w7 HB7.out;have HPW:=zq HPW;have HSW:=HS5.out w7 HB7.out;have HSW:=zq HSW;have HZ:=zq (H1.out _ (HX5.out w7 HB7.out));go_upto_region 15 with fail;have HR:=zq (has_row11 HZ.out #[.int .i64 ref,.bool rev,.slice AP pn PC,.slice (some ⟨bs,os,none⟩) (j+1+1) CS,.int .i64 G]);have HBF:=zq (below_row (g:=w.heap.size+1) (HBWA.out.trans ((HX5.out w7 HB7.out).mono HBWA.out.size)) (by omega) #[.int .i64 ref,.bool rev,.slice AP pn PC,.slice (some ⟨bs,os,none⟩) (j+1+1) CS,.int .i64 G]);have HPF:=zq (HPW.out.rowlow17 HG1.out #[.int .i64 ref,.bool rev,.slice AP pn PC,.slice (some ⟨bs,os,none⟩) (j+1+1) CS,.int .i64 G]);have HSF:=zq (HSW.out.rowlow17 HG1.out #[.int .i64 ref,.bool rev,.slice AP pn PC,.slice (some ⟨bs,os,none⟩) (j+1+1) CS,.int .i64 G]);go_wp2_with (first|(with_reducible refine ldZ 102 (HM5.out w7 HB7.out) ?_)|(with_reducible refine stZ #[.int .i64 ref,.bool rev,.slice AP pn PC,.slice (some ⟨bs,os,none⟩) (j+1+1) CS,.int .i64 G] HZ.out ?_));refine rtZ HR.out ?_;have hlf_:(fromOne LF).length=j+1+1:=by rw[HFO.out];first|exact HLL.out|(rw[List.length_drop,HLL.out];rfl)
   refine⟨⟨AP,PC,some ⟨bs,os,none⟩,CS⟩,by unfold maC;dsimp only;rw[HPN.out,hlf_];rfl,⟨?_,?_,?_,?_,fun s_ hs_=>HTOP.out s_ ?_⟩,HBF.out⟩
   ·show SlO stC 2 _ AP PF.length PC PF;rw[HPN.out];exact HPF.out.sl
   ·show SlO scC17 2 _ (some ⟨bs,os,none⟩) (fromOne LF).length CS (fromOne LF);rw[hlf_,HFO.out];exact HSF.out.sl
   ·show PF.length<=PC;rw[HPN.out];exact HCC.out.1
   ·show(fromOne LF).length<=CS;rw[hlf_];have h_:=HCC.out.2;first|omega|(have h2_:=HC2.out;omega)
   ·have h_:s_∈fromOne LF:=hs_
    rw[HFO.out]at h_
    first|exact h_|exact List.drop_subset _ _ h_
end
section
open Go.RowKit
open Go.Great
def gapT (x:Int):List Int:=if x=0 then[0]else[1,x,0]
theorem gapV_of17 (x:Int):gapV x=[0]++gapT x++[0]:=by
 unfold gapV gapT;split<;>rfl
def secsT (m:Ma3)(u:Int):List Int×Int:=match secsV u 0 m.sects with
 |none=>([],7)
 |some w=>([0,0,(m.sects.length:Int)-1]++w++gapV (scT m.gap u),0)
theorem scT_rng (n u:Int):0<=scT n u/\scT n u<=32766:=by
 unfold scT scaledOf;have hu:=unit_cases u;split
 ·exact⟨Int.le_refl _,by decide⟩
 ·split
  ·exact⟨Int.le_refl _,by decide⟩
  ·split
   ·exact⟨Int.le_refl _,by decide⟩
   ·rename_i h0 h1 h2
    refine⟨?_,by omega⟩;unfold wholeOf;rw[if_neg (by simp)];have h3:0<=n:=by omega
    have h4:0<=unitOf u:=by omega
    have:=Int.ediv_nonneg h3 h4;omega
theorem secsV_at17 {u b:Int}{l:List Sc3}{i:Nat}{x:Sc3}(h:l[i]?=some x):secsV u b (l.drop i)=if scT x.to_ u-b<=0 then none else(secsV u (scT x.to_ u) (l.drop (i+1))).map fun w=>(scT x.to_ u-b)::1::x.timer::0::w:=by
 rw[drop_at15 h,secsV]
theorem opt_app17 (o:Option (List Int))(a b:List Int):(o.map (b++ ·)).map (a++ ·)=o.map ((a++b)++ ·):=by
 cases o with
 |none=>rfl
 |some x=>simp
theorem optellgap_any (g u:Int)(w:World):Calls Tryz.prog 159 #[.int .i64 g,.int .i64 u] w fun r w'=> ∃A n c,r= .returned (.slice A n c)/\SlO inC 1 w' A n c (gapT (scT g u))/\n<=3/\Below w.heap.size w w':=by
 obtain⟨X,hX⟩:=geZ (scT g u);obtain⟨E,hE⟩:=geZ ((scaledOf g u false).2);have HC:=zq (scaled_any g u false w);unfold pair at HC;rw[show(scaledOf g u false).1=X from hX,hE]at HC;rw[hX];clear hX hE;go_enter Tryz.func159,Tryz.ntmps159;go_wp2_with fail;refine HC.out.mono ?_;rintro e_ w1 ⟨rfl,rfl⟩;by_cases z:X=0
 ·have z1:(X==0)=true:=by simp[z]
  have HG:=zq (show gapT X=[0]from if_pos z);have HS:=zq (⟨rfl,sl_hasR (Has.made w 3 #[.int .i64 0]) rfl⟩:SlO inC 1 (w.alloc (.cells #[.int .i64 0] 3)) (some ⟨w.heap.size,0,none⟩) 1 1 [0]);clear z;go_wp2;go_ret
  exact⟨_,_,_,rfl,by rw[HG.out];exact HS.out,by omega,bA⟩
 ·have z1:(X==0)=false:=by simp[z]
  have HG:=zq (show gapT X=[1,X,0]from if_neg z);have HS:=zq (⟨rfl,sl_hasR (Has.made w 3 #[.int .i64 1,.int .i64 X,.int .i64 0]) rfl⟩:SlO inC 1 (w.alloc (.cells #[.int .i64 1,.int .i64 X,.int .i64 0] 3)) (some ⟨w.heap.size,0,none⟩) 3 3 [1,X,0]);clear z;go_wp2;go_ret
  exact⟨_,_,_,rfl,by rw[HG.out];exact HS.out,by omega,bA⟩
theorem optellsecs_any (m:Ma3)(b:MaA)(u:Int)(w:World)(hm:MaR w m b)(hk:m.sects.length<=100):
  Calls Tryz.prog 81 #[.agg (maC m b),.int .i64 u] w fun r w'=> ∃A n c,r= .returned (.tuple #[.slice A n c,.int .i64 (secsT m u).2])/\SlO inC 1 w' A n c (secsT m u).1/\n<=500/\Below w.heap.size w w':=by
 obtain⟨mr,mv,mp,ms,mg⟩:=m;obtain⟨ap,cp,aq,cs⟩:=b;have hs:=hm.sects;clear hm;unfold maC;dsimp only at*;obtain⟨pn,hpn⟩: ∃m,mp.length=m:=⟨_,rfl⟩
 obtain⟨sn,hsn⟩: ∃m,ms.length=m:=⟨_,rfl⟩
 rw[hpn];rw[hsn]at hs hk⊢;obtain⟨R,hR⟩:=geZ (secsT ⟨mr,mv,mp,ms,mg⟩ u);rw[hR];have HR:=zq hR;unfold secsT at HR;dsimp only at HR;rw[hsn]at HR;have HSN:=zq hsn;clear hpn hR hsn;obtain⟨wa,hwa,hbwa,HWA,HBWA,h0⟩:=bx1Z w 38 #[.int .i64 mr,.bool mv,.slice ap pn cp,.slice aq sn cs,.int .i64 mg];have HM:=zH h0;have HS:=zq (fun W (hW:Below wa.heap.size wa W)=>(hs.under hbwa).under hW);have HK:=zq hk;have m3:wa.cell? ⟨w.heap.size,3,none⟩=some (.slice aq sn cs):=h0.cell 3;have hsb:(sn:Int)<=100:=by omega
 obtain⟨K,hK⟩: ∃K:Int,(sn:Int)-1=K:=⟨_,rfl⟩
 have hw1:IntKind.i64.wrap ((sn:Int)-1)=K:=by rw[IntKind.wrap_i64];omega
 rw[hK]at HR;obtain⟨wb,hwb⟩: ∃u,wa.alloc (.cells #[.int .i64 0,.int .i64 0,.int .i64 K] 3)=u:=⟨_,rfl⟩
 have hbb:Below wa.heap.size wa wb:=by rw[<-hwb];exact bA
 have HO0:=zq (show OwR inC 1 3 wa.heap.size wb (some ⟨wa.heap.size,0,none⟩) 3 3 [0,0,K]from by rw[<-hwb];exact⟨World.ownsRow_lit (base:=wa.heap.size) (e:=3) (size:=1) wa #[.int .i64 0,.int .i64 0,.int .i64 K] 3 (Nat.le_refl _) (by unfold maxLen;omega) rfl,rfl⟩);have HB0:=zq hbb;have HWB:=zq hwb;clear hwa hbwa h0 hs hk hwb hbb hK hsb;go_enter Tryz.func81,Tryz.ntmps81;go_upto_region 1 with fail;rw[HWA.out];clear HWA;go_upto_region 2 with fail;rw[HWB.out];clear HWB hw1;have m3:wb.cell? ⟨w.heap.size,3,none⟩=some (.slice aq sn cs):=(HM.out wb HB0.out).cell 3;have hsb:sn<=100:=HK.out;go_wp2;go_loopg [6,7,20] sn (fun kk v6 v7 v20 wl=> ∃(i:Nat) (A:Option Addr) (n c:Nat) (told:Int) (acc:List Int),i<=sn/\sn-i<=kk/\v20= .int .i64 i/\v6= .slice A n c/\v7= .int .i64 told/\Hid (OwR inC 1 3 wa.heap.size wl A n c ([0,0,K]++acc))/\Hid (n<=3+4*i)/\Hid (0<=told/\told<=32766)/\Hid (secsV u 0 ms=(secsV u told (ms.drop i)).map (acc++ ·))/\Hid (Below wa.heap.size wa wl))
 case atStart=>exact⟨0,_,_,_,0,[],by omega,by omega,rfl,rfl,rfl,HO0,zq (by omega),zq (by omega),zq (by rw[List.drop_zero];cases secsV u 0 ms<;>rfl),HB0⟩
 clear m3 HO0 HB0;obtain⟨i,A,n,c,told,acc,hi,hik,rfl,rfl,rfl,HO,HN,HT,HSV,HB⟩:=hrel;obtain⟨k1,hk1⟩: ∃k1,k1=gk:=⟨_,rfl⟩
 subst hk1;obtain⟨wv,hwv⟩: ∃wv,wv=wr:=⟨_,rfl⟩
 subst hwv;by_cases hlt:i<sn;rotate_left
 ·obtain rfl:i=sn:=by omega
  obtain⟨g,hg⟩:=geZ (scT mg u);have HF:=zq (show R=([0,0,K]++acc++[0]++gapT g++[0],0)from by rw[<-HR.out,HSV.out,List.drop_of_length_le (by rw[HSN.out];exact Nat.le_refl _)];show([0,0,K]++(acc++[])++gapV (scT mg u),(0:Int))=_;rw[hg,gapV_of17,List.append_nil];simp only[List.append_assoc]);have HTG:=zq (fun W=>optellgap_any mg u W);rw[hg]at HTG;have hnb:=HN.out;have hkb:=HK.out;have y1: ¬(i:Int)<i:=by omega
  clear hg HSV HT HR;obtain⟨hO,hSL,h1,hBD⟩:=pourR 8 (HO.out.under ((Below.refl _ _).alloc (Nat.le_refl _) (.cells #[.int .i64 0] 3))) (⟨rfl,sl_hasR (Has.made _ _ _) rfl⟩:SlO inC 1 (wv.alloc (.cells #[.int .i64 0] 3)) (some ⟨wv.heap.size,0,none⟩) 1 1 [0]) one_in15 (Nat.le_trans HB.out.size (by simp)) (by omega) (by omega);go_wp2_with (with_reducible refine wpList_pour (o:=⟨some 46,_,_,_,_,_⟩) rfl (.tmp 44) (.tmp 45) 22 rfl wa.heap.size 3 (.int .i64 0) 1 8 Tryz.underlying22 info_int15 ?hz1 (by decide) A n c _ ?hs1 hO (some ⟨wv.heap.size,0,none⟩) 1 1 _ ?hx1 hSL h1 hBD ?next1)
  all_goals try rfl
  intro A1 c1 w1 ho1 hg1;have HO1:=zq (show OwR inC 1 3 wa.heap.size w1 A1 (n+1) c1 ([0,0,K]++acc++[0])from OwR.poured (l':=[0]) HO.out.2 rfl ho1.out);have HB1:=zq (below_own (HB.out.trans ((bA).mono HB.out.size)) (Nat.le_trans HB.out.size (by simp)) hO.out (Nat.le_refl _) rfl hg1.out);have m4:w1.cell? ⟨w.heap.size,4,none⟩=some (.int .i64 mg):=(HM.out w1 HB1.out).cell 4;obtain⟨L1,hL1⟩:=geZ ([0,0,K]++acc++[0]);rw[hL1]at HO1 HF;clear ho1 hg1 hO hSL h1 hBD HO HB hL1;go_wp2_with fail;refine(HTG.out w1).mono ?_;rintro e_ w2 ⟨B,m,d,rfl,hsl2,hm2,hb2⟩;have HO2:=zq (HO1.out.under hb2);have HB2:=tB HB1 hb2;have HSL2:=zq hsl2;have HM2:=zq hm2;clear m4 hb2 hsl2 HO1 HB1 HTG;obtain⟨hO,hSL,h1,hBD⟩:=pourR 8 HO2.out HSL2.out one_in15 HB2.out.size (by omega) (by omega);go_wp2_with (with_reducible refine wpList_pour (o:=⟨some 52,_,_,_,_,_⟩) rfl (.tmp 47) (.tmp 51) 22 rfl wa.heap.size 3 (.int .i64 0) 1 8 Tryz.underlying22 info_int15 ?hz2 (by decide) A1 (n+1) c1 _ ?hs2 hO B m d _ ?hx2 hSL h1 hBD ?next2)
  all_goals try rfl
  intro A3 c3 w3 ho3 hg3;have HO3:=zq (show OwR inC 1 3 wa.heap.size w3 A3 (n+1+m) c3 (L1++gapT g)from OwR.poured (l:=L1) (l':=gapT g) HO2.out.2 HSL2.out.1 ho3.out);have HB3:=zq (below_own HB2.out HB2.out.size hO.out (Nat.le_refl _) rfl hg3.out);obtain⟨L3,hL3⟩:=geZ (L1++gapT g);rw[hL3]at HO3 HF;clear ho3 hg3 hO hSL h1 hBD HO2 HB2 HSL2 hL3;obtain⟨hO,hSL,h1,hBD⟩:=pourR 8 (HO3.out.under ((Below.refl _ _).alloc (Nat.le_refl _) (.cells #[.int .i64 0] 3))) (⟨rfl,sl_hasR (Has.made _ _ _) rfl⟩:SlO inC 1 (w3.alloc (.cells #[.int .i64 0] 3)) (some ⟨w3.heap.size,0,none⟩) 1 1 [0]) one_in15 (Nat.le_trans HB3.out.size (by simp)) (by omega) (by omega);go_wp2_with (with_reducible refine wpList_pour (o:=⟨some 55,_,_,_,_,_⟩) rfl (.tmp 53) (.tmp 54) 22 rfl wa.heap.size 3 (.int .i64 0) 1 8 Tryz.underlying22 info_int15 ?hz3 (by decide) A3 (n+1+m) c3 _ ?hs3 hO (some ⟨w3.heap.size,0,none⟩) 1 1 _ ?hx3 hSL h1 hBD ?next3)
  all_goals try rfl
  intro A4 c4 w4 ho4 hg4;have HO4:=zq (show OwR inC 1 3 wa.heap.size w4 A4 (n+1+m+1) c4 (L3++[0])from OwR.poured (l:=L3) (l':=[0]) HO3.out.2 rfl ho4.out);have HB4:=zq (below_own (HB3.out.trans ((bA).mono HB3.out.size)) (Nat.le_trans HB3.out.size (by simp)) hO.out (Nat.le_refl _) rfl hg4.out);have HNM:=zq (show n+1+m+1<=500 from by have:=HM2.out;omega);clear ho4 hg4 hO hSL h1 hBD HO3 HB3;go_wp2;go_ret2
  exact⟨A4,_,c4,by rw[HF.out];rfl,by rw[HF.out];exact HO4.out.sl,HNM.out,HBWA.out.trans (HB4.out.mono HBWA.out.size)⟩
 ·obtain⟨x,hx⟩:=glZ ms (i) (by rw[HSN.out];exact hlt)
  obtain⟨bk,off,rfl,d0,d1⟩:=(HS.out wv HB.out).sect hx;have HXV:=zq (secsV_at17 (u:=u) (b:=told) hx);obtain⟨xt,xm⟩:=x;dsimp only at d0 d1 HXV;obtain⟨X,hX⟩:=geZ (scT xt u);rw[hX]at HXV;have HXR:=zq (show 0<=X/\X<=32766 from by rw[<-hX];exact scT_rng _ _);obtain⟨E,hE⟩:=geZ ((scaledOf xt u false).2);have HSC:=zq (fun W=>scaled_any xt u false W);unfold pair at HSC;rw[show(scaledOf xt u false).1=X from hX,hE]at HSC;have x1:(i:Int)<sn:=by omega
  have x2:(0:Int)<=i:=by omega
  have HIN:=zq (show i<sn/\sn-i<=k1 from⟨hlt,hik⟩);clear hx hX hE hi hik;obtain⟨wc,hwc⟩: ∃u,wv.alloc (.cells #[.int .i64 xt,.int .i64 xm] 66)=u:=⟨_,rfl⟩
  have hbc:Below wv.heap.size wv wc:=by rw[<-hwc];exact bA
  have hHc:Has wc wv.heap.size 66 #[.int .i64 xt,.int .i64 xm]:=by rw[<-hwc];exact Has.made _ _ _
  have HWC:=zq hwc;obtain⟨gs,hgs⟩: ∃g,wv.heap.size=g:=⟨_,rfl⟩
  have HGS:=zq hgs;rw[hgs]at hHc;have HOC:=zq (HO.out.under hbc);have HBC:=tB HB hbc;have HHC:=zq hHc;clear hwc hbc hgs hlt;go_upto_region 6 with fail;rw[HWC.out];simp only[HGS.out];clear HWC HGS d0 d1 HO HB;have c0:wc.cell? ⟨gs,0,none⟩=some (.int .i64 xt):=hHc.cell 0;have c1:wc.cell? ⟨gs,1,none⟩=some (.int .i64 xm):=hHc.cell 1;clear hHc;go_wp2_with fail;refine(HSC.out wc).mono ?_;rintro e_ wc2 ⟨rfl,rfl⟩;by_cases z:X<=told
  ·have HF:=zq (show R=([],7)from by rw[<-HR.out,HSV.out,HXV.out,if_pos (by omega)];rfl)
   have z1:decide (X<=told)=true:=decide_eq_true z;clear z c0 c1;go_wp2;go_ret2
   exact⟨none,0,0,by rw[HF.out];rfl,by rw[HF.out];exact SlO.nil _ _ _,by omega,HBWA.out.trans (HBC.out.mono HBWA.out.size)⟩
  ·have z1:decide (X<=told)=false:=decide_eq_false z
   obtain⟨D,hD⟩:=geZ (X-told);have hw1:IntKind.i64.wrap (X-told)=D:=by rw[IntKind.wrap_i64];have h1_:=HXR.out;have h2_:=HT.out;omega
   rw[hD]at HXV;have HSV2:=zq (show secsV u 0 ms=(secsV u X (ms.drop (i+1))).map ((acc++[D,1,xm,0])++ ·)from by rw[HSV.out,HXV.out,if_neg (by omega),<-opt_app17];rfl);have hnb:=HN.out;have hib:=HIN.out;have hkb:=HK.out;clear hD z;obtain⟨hO,hSL,h1,hBD⟩:=pourR 8 (HOC.out.under ((Below.refl _ _).alloc (Nat.le_refl _) (.cells #[.int .i64 D,.int .i64 1,.int .i64 xm,.int .i64 0] 3))) (⟨rfl,sl_hasR (Has.made _ _ _) rfl⟩:SlO inC 1 (wc.alloc (.cells #[.int .i64 D,.int .i64 1,.int .i64 xm,.int .i64 0] 3)) (some ⟨wc.heap.size,0,none⟩) 4 4 [D,1,xm,0]) one_in15 (Nat.le_trans HBC.out.size (by simp)) (by omega) (by omega);go_wp2_with (with_reducible refine wpList_pour (o:=⟨some 41,_,_,_,_,_⟩) rfl (.tmp 34) (.tmp 40) 22 rfl wa.heap.size 3 (.int .i64 0) 1 8 Tryz.underlying22 info_int15 ?hz4 (by decide) A n c _ ?hs4 hO (some ⟨wc.heap.size,0,none⟩) 4 4 _ ?hx4 hSL h1 hBD ?next4)
   all_goals try rfl
   intro A1 c1_ w1 ho1 hg1;have HO1:=zq (show OwR inC 1 3 wa.heap.size w1 A1 (n+4) c1_ ([0,0,K]++(acc++[D,1,xm,0]))from by rw[<-List.append_assoc];exact OwR.poured (l':=[D,1,xm,0]) HOC.out.2 rfl ho1.out);have HB1:=zq (below_own (HBC.out.trans ((bA).mono HBC.out.size)) (Nat.le_trans HBC.out.size (by simp)) hO.out (Nat.le_refl _) rfl hg1.out);clear ho1 hg1 hO hSL h1 hBD HOC HBC c0 c1 z1 hw1 HSV HXV hnb hib hkb;go_wp2;go_roundg (k1-1)
   case measure=>have:=HIN.out;omega
   case rel=>exact⟨i+1,A1,n+4,c1_,X,acc++[D,1,xm,0],by have:=HIN.out;omega,by have:=HIN.out;omega,by first|go_num|(rw[IntWalk.wrap64_in _ (by have h1_:=HIN.out;have h2_:=HK.out;omega)];go_num),rfl,rfl,HO1,zq (by have:=HN.out;omega),HXR,HSV2,HB1⟩
end
end Go.Proofs.YtahadmeilajdgaaGreatDoor
