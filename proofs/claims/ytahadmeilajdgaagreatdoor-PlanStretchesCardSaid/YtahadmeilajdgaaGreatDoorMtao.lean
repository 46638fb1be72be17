/-
  Our own text, joined.
-/
import Derived.Test.YtahadmeilajdgaaGreatDoorMtam
import Derived.Test.YtahadmeilajdgaaGreatDoorMtan
import Derived.BigQuiet
import Derived.IntWalk
import Derived.Test.YtahadmeilajdgaaGreatDoorMtaa
import Derived.Test.YtahadmeilajdgaaGreatDoorMtah
import Derived.Test.YtahadmeilajdgaaGreatDoorMtae
import Derived.Test.YtahadmeilajdgaaGreatDoorMtaj
import Derived.Test.YtahadmeilajdgaaGreatDoorMtad
namespace Go.Proofs.YtahadmeilajdgaaGreatDoor
set_option maxRecDepth 100000
set_option maxHeartbeats 80000000
section
open Go.RowKit
open Go.Great
def qdK (l:List PkE):Bool:=match l with
 |[]=>false
 |p::_=>p.id==15 &&l.all fun p=>qaV (p.id,p.V)
theorem goes_met17 (path:List St3)(e:Int)(r:Bool):goesB path e=metS path [⟨e,r⟩]:=by
 unfold goesB metS;simp
theorem last_at17b {path:List St3}{m:Nat}{y:St3}(hm:path.length=m+1)(hy:path[m]?=some y):lastS path=y:=by
 unfold lastS;rw[List.getLastD_eq_getLast?,List.getLast?_eq_getElem?,hm];show(path[m]?).getD _=y
 rw[hy]
 rfl
theorem SlO.link17 {w:World}{A:Option Addr}{n c:Nat}{l:List Lk17}(h:SlO lkC17 3 w A n c l){j:Nat}{x:Lk17}(hx:l[j]?=some x):
  ∃b off,A=some ⟨b,off,none⟩/\w.cell? ⟨b,off+j*3,none⟩=some (.bool x.told)/\w.cell? ⟨b,off+j*3+1,none⟩=some (.int .i64 x.group)/\w.cell? ⟨b,off+j*3+2,none⟩=some (.bool x.rev):=by
 obtain⟨b,off,e,hc⟩:=h.at_ (fun _=>rfl) (by decide) hx;exact⟨b,off,e,hc 0 _ rfl,hc 1 _ rfl,hc 2 _ rfl⟩
theorem opar1_any (id:Int)(A:Option Addr)(n c:Nat)(V:List Int)(w:World)(hV:SlI w.heap.size w A n c V)(hn:n<=10000)(hwd:Wd w):Calls Tryz.prog 122 #[.agg #[.int .i64 id,.slice A n c]] w fun e w'=>e= .returned (.bool (!qaV (id,V)))/\Below w.heap.size w w':=by
 obtain⟨wa,hwa,hbwa,HWA,HBWA,h0⟩:=bx1Z w 98 #[.int .i64 id,.slice A n c];have HI:=zq (opk_items id A n c V wa (sliUnder hV hbwa) hn (hwd.under hbwa));have HP:=zq h0;obtain⟨q,hq⟩:=geZ ((qgk id V).2);have HQ:=zq (show qaV (id,V)=decide (q=0)from by rw[<-hq];rfl);rw[HQ.out];unfold ItemsPost at HI;rw[hq]at HI;clear hwa hbwa h0 hV hwd hq hn;go_enter Tryz.func122,Tryz.ntmps122;go_upto_region 1 with fail;rw[HWA.out];clear HWA;go_wp2_with (with_reducible refine ldZ 6 HP.out ?_);refine HI.out.mono ?_;rintro e_ w1 ⟨B,m,d,rfl,_,hb1⟩;have HB1:=tB HBWA hb1;clear hb1 HI HP;by_cases z:q=0
 ·have z1:(q !=0)=false:=by simp[z]
  have z2:decide (q=0)=true:=decide_eq_true z;have HZ:=zq (show(!decide (q=0))=false from by rw[decide_eq_true z];rfl);clear z;go_wp2;go_ret
  exact⟨by rw[HZ.out];rfl,HB1.out⟩
 ·have z1:(q !=0)=true:=by simp[z]
  have HZ:=zq (show(!decide (q=0))=true from by rw[decide_eq_false z];rfl);clear z;go_wp2;go_ret
  exact⟨by rw[HZ.out];rfl,HB1.out⟩
theorem oix_ar17 (p:PkE->Bool)(l:List PkE)(A:Option Addr)(n c:Nat)(w:World)(hs:SlK w A n c l)(hbig:n<=1048576)
  (HE:Hid (∀(x:PkE),x∈l-> ∀W,Below w.heap.size w W->Calls Tryz.prog 122 #[.agg #[.int .i64 x.id,.slice x.A x.n x.c]] W fun e w'=>e= .returned (.bool (p x))/\Below W.heap.size W w')):
  Calls Tryz.prog 128 #[.slice A n c,.func (.func 122) #[] #[]] w fun e w'=>e= .returned (.int .i64 (idxL p l))/\Below w.heap.size w w':=by
 have HN:Hid (l.length=n):=zq hs.len;have HW:=zq hs;clear hs;have x0:(0:Int)<=n:=by omega
 obtain⟨R,hR⟩:=geZ (idxL p l);have HR:=zq hR;rw[hR];clear hR;go_enter Tryz.func128,Tryz.ntmps128;go_wp2;go_loopg [8] n (fun kk v wl=> ∃j:Nat,j<=n/\n-j<=kk/\v= .int .i64 j/\Hid (∀i x,i<j->l[i]?=some x->p x=false)/\Hid (Below w.heap.size w wl))
 case atStart=>exact⟨0,by omega,by omega,rfl,zq fun i x h=>absurd h (by omega),zq (Below.refl _ _)⟩
 obtain⟨j,hj,hjk,rfl,HNO,HBL⟩:=hrel;by_cases hlt:j<n
 ·obtain⟨x,hx⟩:=glZ l (j) (by rw[HN.out];omega)
  obtain⟨bk,off,rfl,d0,d1⟩:=(HW.out.under HBL.out).pk17 hx;have HX:=zq hx;have y0:(0:Int)<=j:=by omega
  have y1:(j:Int)<n:=by omega
  have HC:=zq (HE.out x (List.mem_of_getElem? HX.out) wr HBL.out);clear hx;generalize hb:p x=b at*;have HBE:=zq hb;clear hb
  cases b with
  |true=>
   have HF:Hid (R=j):=zq (by rw[<-HR.out];exact qbE HX.out HBE.out HNO.out);go_upto_region 4 with fail;go_wp2_with fail;refine HC.out.mono ?_;rintro e w1 ⟨rfl,hb1⟩;have HB1:=tB HBL hb1;clear hb1 d0 d1 HBE HNO;go_wp2;go_ret
   exact⟨by rw[HF.out];rfl,HB1.out⟩
  |false=>
   go_upto_region 4 with fail;go_wp2_with fail;refine HC.out.mono ?_;rintro e w1 ⟨rfl,hb1⟩;have HB1:=tB HBL hb1;have HN2:Hid (∀i y,i<j+1->l[i]?=some y->p y=false):=zq fun i y hi hy=>by
    by_cases h:i=j
    ·subst h;rw[HX.out]at hy;cases hy;exact HBE.out
    ·exact HNO.out i y (by omega) hy
   clear hb1 d0 d1 HBE HNO;go_wp2;go_roundg (gk-1)
   case measure=>omega
   case rel=>exact⟨j+1,by omega,by omega,by go_num,HN2,HB1⟩
 ·have y1: ¬(j:Int)<n:=by omega
  have HF:Hid (R= -1):=zq (by rw[<-HR.out];exact qbc fun i y hi hy=>HNO.out i y (by have:=HN.out;omega) hy);go_wp2;go_ret
  exact⟨by rw[HF.out];rfl,HBL.out⟩
theorem oct_ar17 (p:PkE->Bool)(l:List PkE)(A:Option Addr)(n c:Nat)(w:World)(hs:SlK w A n c l)(hbig:n<=1048576)
  (HE:Hid (∀(x:PkE),x∈l-> ∀W,Below w.heap.size w W->Calls Tryz.prog 122 #[.agg #[.int .i64 x.id,.slice x.A x.n x.c]] W fun e w'=>e= .returned (.bool (p x))/\Below W.heap.size W w')):
  Calls Tryz.prog 121 #[.slice A n c,.func (.func 122) #[] #[]] w fun e w'=>e= .returned (.bool (l.any p))/\Below w.heap.size w w':=by
 have H:=zq (oix_ar17 p l A n c w hs hbig HE);clear hs HE;rw[<-qbn];generalize idxL p l=R at*;go_enter Tryz.func121,Tryz.ntmps121;go_wp2_with fail;refine H.out.mono ?_;rintro e w1 ⟨rfl,hb1⟩;have HB1:=zq hb1;clear hb1 H;go_wp2;go_ret
 exact⟨rfl,HB1.out⟩
theorem opread_ok17 (l:List PkE)(A:Option Addr)(n c:Nat)(w:World)(hs:SlK w A n c l)(hn:n<=30)(hv: ∀p∈l,p.n<=3000)(hwd:Wd w):
  Calls Tryz.prog 63 #[.slice A n c] w fun r w'=>r= .returned (.bool (qdK l))/\Below w.heap.size w w':=by
 have HE:Hid (∀(x:PkE),x∈l-> ∀W,Below w.heap.size w W->Calls Tryz.prog 122 #[.agg #[.int .i64 x.id,.slice x.A x.n x.c]] W fun e w'=>e= .returned (.bool (!qaV (x.id,x.V)))/\Below W.heap.size W w'):=zq fun x hx W hW=>opar1_any x.id x.A x.n x.c x.V W (sliUnder (hs.each x hx) hW) (by have:=hv x hx;omega) (hwd.under hW);have HCT:=zq (oct_ar17 (fun x=>!qaV (x.id,x.V)) l A n c w hs (by omega) HE);obtain⟨R,hR⟩:=geZ (qdK l);rw[hR]
 cases l with
 |nil=>
  obtain rfl:n=0:=hs.len.symm;have HF:=zq (show R=false from hR.symm);clear hs hn hv hwd HE HCT hR;go_enter Tryz.func63,Tryz.ntmps63;go_wp2;go_ret
  exact⟨by rw[HF.out];rfl,Below.refl _ _⟩
 |cons p r=>
  obtain⟨bk,off,hA,d0,d1⟩:=hs.pk17 (j:=0) (x:=p) rfl;subst hA;have d0':w.cell? ⟨bk,off,none⟩=some (.int .i64 p.id):=by rw[show off=off+0*2 by omega];exact d0
  obtain⟨m,hm⟩: ∃m,n=m+1:=⟨r.length,by rw[<-hs.len];rfl⟩
  subst hm;have u1:(0:Int)<((m+1:Nat):Int):=by omega
  have u2: ¬((m+1:Nat):Int)=0:=by omega
  have u3:(((m+1:Nat):Int)==0)=false:=by simp;omega
  obtain⟨pi,hpi⟩: ∃q,p.id=q:=⟨_,rfl⟩
  rw[hpi]at d0 d0';by_cases z:pi=15;rotate_left
  ·have z1:(pi !=15)=true:=by simp[z]
   have HF:=zq (show R=false from by rw[<-hR];unfold qdK;dsimp only;rw[hpi,beq_eq_false_iff_ne.2 z];rfl);clear hs hn hv hwd HE HCT hR hpi z d1;go_enter Tryz.func63,Tryz.ntmps63;go_wp2;go_ret
   exact⟨by rw[HF.out];rfl,Below.refl _ _⟩
  ·subst z
   have z1:((15:Int) !=15)=false:=rfl;obtain⟨q,hq⟩:=geZ ((p::r).any (fun x=>!qaV (x.id,x.V)));rw[hq]at HCT;have HF:=zq (show R=!q from by rw[<-hR,<-hq];unfold qdK;dsimp only;rw[hpi];simp only[beq_self_eq_true,Bool.true_and,List.not_any_eq_all_not,Bool.not_not]);clear hs hn hv hwd HE hR hpi hq d1;go_enter Tryz.func63,Tryz.ntmps63;go_wp2_with fail;refine HCT.out.mono ?_;rintro e_ w1 ⟨rfl,hb1⟩;have HB1:=zq hb1;clear hb1 HCT;go_wp2;go_ret
   exact⟨by rw[HF.out];rfl,HB1.out⟩
theorem opfollow_any (t:Tp3)(a:TpA)(s0:St3)(ks:List Lk17)(A:Option Addr)(n c:Nat)(w:World)(ht:TopR w t a)(hl:qaH t=true)(hck:qaE t=0)(he0:edgeB t s0.edge=true)(hs:SlO lkC17 3 w A n c ks)(hn:n<=32):
  Calls Tryz.prog 65 #[.agg (tpC t a),.agg (stA13 s0),.slice A n c] w fun r w'=> ∃(B:Option Addr) (m d:Nat),r= .returned (.tuple #[.slice B m d,.int .i64 (qa9 t [s0] ks).2])/\OwR stC 2 30 w.heap.size w' B m d (qa9 t [s0] ks).1/\Below w.heap.size w w':=by
 have HBA:=zq (fun W (hW:Below w.heap.size w W) id=>otp_bal t a id W (ht.under hW) hl);have HAF:=zq (fun W (hW:Below w.heap.size w W) s=>qdf t a s W (ht.under hW) hl);obtain⟨F,hF⟩:=geZ ((qa9 t [s0] ks));rw[hF];have HF:=zq hF;have HCK:=zq hck;have HLT:=zq hl;have HKN:=zq hs.1;have HNB:=zq hn;have HE0:=zq he0;clear hF;obtain⟨se,sr⟩:=s0;unfold stA13;dsimp only;obtain⟨wa,hwa,hbwa,HWA,HBWA,h0,h1⟩:=bx2Z w 27 (tpC t a) 30 #[.int .i64 se,.bool sr];have H0:=zH h0;have H1:=zq h1;have HKS:=zq (fun W (hW:Below wa.heap.size wa W)=>(hs.under hbwa).under hW);have HUP:=zq (fun W (hW:Below wa.heap.size wa W)=>HBWA.out.trans (hW.mono HBWA.out.size));obtain⟨wb,hwb⟩: ∃u,wa.alloc (.cells #[.int .i64 se,.bool sr] 30)=u:=⟨_,rfl⟩
 have hbb:Below wa.heap.size wa wb:=by rw[<-hwb];exact bA
 have HO0:=zq (show OwR stC 2 30 wa.heap.size wb (some ⟨wa.heap.size,0,none⟩) 1 1 [⟨se,sr⟩]from by rw[<-hwb];exact⟨World.ownsRow_lit (base:=wa.heap.size) (e:=30) (size:=2) wa #[.int .i64 se,.bool sr] 1 (Nat.le_refl _) (by unfold maxLen;omega) rfl,rfl⟩);have HB0:=zq hbb;have HWB:=zq hwb;clear hwa hbwa h0 h1 ht hl hck he0 hs hwb hbb;go_enter Tryz.func65,Tryz.ntmps65;go_upto_region 1 with fail;rw[HWA.out];clear HWA;go_upto_region 2 with(with_reducible refine ldZ 15 H1.out ?_)
 rw[HWB.out];clear HWB H1;go_wp2;go_loopg [8,19] n (fun kk v8 v19 wl=> ∃(i:Nat) (B:Option Addr) (m d:Nat) (path:List St3),i<=n/\n-i<=kk/\v19= .int .i64 i/\v8= .slice B (m+1) d/\Hid (OwR stC 2 30 wa.heap.size wl B (m+1) d path)/\Hid (m+1<=24)/\Hid (∀s∈path,edgeB t s.edge=true)/\Hid (qa9 t path (ks.drop i)=F)/\Hid (Below wa.heap.size wa wl))
 case atStart=>exact⟨0,_,0,1,[⟨se,sr⟩],by omega,by omega,rfl,rfl,HO0,zq (by omega),zq (fun s hs=>by rw[List.mem_singleton]at hs;subst hs;exact HE0.out),zq (by rw[List.drop_zero];exact HF.out),HB0⟩
 clear HO0 HB0 HF HE0;obtain⟨i,B,m,d,path,hi,hik,rfl,rfl,HO,HM,HED,HFO,HB⟩:=hrel;obtain⟨k1,hk1⟩: ∃k1,k1=gk:=⟨_,rfl⟩
 subst hk1;obtain⟨wv,hwv⟩: ∃wv,wv=wr:=⟨_,rfl⟩
 subst hwv;by_cases hlt:i<n;rotate_left
 ·obtain rfl:i=n:=by omega
  have y1: ¬(i:Int)<i:=by omega
  have HFF:=zq (show F=(path,0)from by rw[<-HFO.out,List.drop_of_length_le (by rw[HKN.out];exact Nat.le_refl _)];rfl);go_wp2;go_ret2
  exact⟨B,m+1,d,by rw[HFF.out];rfl,by rw[HFF.out];exact HO.out.to_base HBWA.out.size,HUP.out _ HB.out⟩
 ·obtain⟨x,hx⟩:=glZ ks (i) (by rw[HKN.out];exact hlt)
  obtain⟨bk,off,rfl,d0,d1,d2⟩:=(HKS.out wv HB.out).link17 hx;have hfo:=HFO.out;rw[qbk hx,qa9]at hfo;obtain⟨xt,xg,xr⟩:=x;dsimp only at d0 d1 d2 hfo;have HFO:=zq hfo;have x1:(i:Int)<n:=by omega
  have x2:(0:Int)<=i:=by omega
  have HIN:=zq (show i<n/\n-i<=k1 from⟨hlt,hik⟩);clear hx hfo hi hik hlt;obtain⟨w1,hw1⟩: ∃u,wv.alloc (.cells #[.bool xt,.int .i64 xg,.bool xr] 180)=u:=⟨_,rfl⟩
  have hb1:Below wv.heap.size wv w1:=by rw[<-hw1];exact bA
  have hH1:Has w1 wv.heap.size 180 #[.bool xt,.int .i64 xg,.bool xr]:=by rw[<-hw1];exact Has.made _ _ _
  have HW1:=zq hw1;obtain⟨g1,hg1⟩: ∃g,wv.heap.size=g:=⟨_,rfl⟩
  have HG1:=zq hg1;rw[hg1]at hH1;have HO1:=zq (HO.out.under hb1);have HB1:=tB HB hb1;have HK1:=zq hH1;clear hw1 hb1 hg1 hH1;go_upto_region 5 with fail;rw[HW1.out];simp only[HG1.out];clear HW1 HG1 d0 d1 d2 HO HB;have e1:w1.cell? ⟨g1,1,none⟩=some (.int .i64 xg):=HK1.out.cell 1;have HBX:=zq (HBA.out w1 (HUP.out _ HB1.out) xg);obtain⟨bq,hbq⟩: ∃q,balR t xg=q:=⟨_,rfl⟩
  obtain⟨ok,hok⟩: ∃q,(balF t xg).isSome=q:=⟨_,rfl⟩
  rw[hbq,hok]at HBX;have HBQ:=zq hbq;have HOK:=zq hok;obtain⟨bi,be,ba⟩:=bq;unfold blA at HBX;dsimp only at HBX;clear hbq hok;go_wp2_with (with_reducible refine ldZ 24 (H0.out w1 HB1.out) ?_);refine HBX.out.mono ?_;rintro e_ w2 ⟨rfl,hb2⟩;have HO2:=zq (HO1.out.under hb2);have HB2:=tB HB1 hb2;have HK2:=uH HK1 hb2;clear hb2 HBX e1 HO1 HB1 HK1;obtain⟨w3,hw3⟩: ∃u,w2.alloc (.cells #[.int .i64 bi,.int .i64 be,.int .i64 ba] 151)=u:=⟨_,rfl⟩
  have hb3:Below w2.heap.size w2 w3:=by rw[<-hw3];exact bA
  have hH3:Has w3 w2.heap.size 151 #[.int .i64 bi,.int .i64 be,.int .i64 ba]:=by rw[<-hw3];exact Has.made _ _ _
  have HW3:=zq hw3;obtain⟨g2,hg2⟩: ∃g,w2.heap.size=g:=⟨_,rfl⟩
  have HG2:=zq hg2;rw[hg2]at hH3;have HO3:=zq (HO2.out.under hb3);have HB3:=tB HB2 hb3;have HK3:=uH HK2 hb3;have HY3:=zq hH3;clear hw3 hb3 hg2 hH3 HO2 HB2 HK2;go_upto_region 6 with fail;rw[HW3.out];simp only[HG2.out];clear HW3 HG2;obtain⟨y,hy⟩:=glZ path (m) (by rw[HO3.out.2];omega);have HLY:=zq (last_at17b HO3.out.2 hy);have HYE:=zq (HED.out y (List.mem_of_getElem? hy));obtain⟨gp,hgp,_,_⟩:=HO3.out.some (by omega);subst hgp;have p0:=HO3.out.sl.at_cell (fun _=>rfl) (by decide) hy (i:=0) rfl;have p1:=HO3.out.sl.at_cell (fun _=>rfl) (by decide) hy (i:=1) rfl;simp only[Nat.zero_add,Nat.add_zero]at p0 p1;obtain⟨ye,yr⟩:=y;dsimp only at p0 p1 HYE;have hm24:=HM.out;have hm23:m<24:=by omega
  have v1:(0:Int)<=(m:Int):=by omega
  have v2:(m:Int)<((m+1:Nat):Int):=by omega
  clear hy;obtain⟨w4,hw4⟩: ∃u,w3.alloc (.cells #[.int .i64 ye,.bool yr] 30)=u:=⟨_,rfl⟩
  have hb4:Below w3.heap.size w3 w4:=by rw[<-hw4];exact bA
  have hH4:Has w4 w3.heap.size 30 #[.int .i64 ye,.bool yr]:=by rw[<-hw4];exact Has.made _ _ _
  have HW4:=zq hw4;obtain⟨g3,hg3⟩: ∃g,w3.heap.size=g:=⟨_,rfl⟩
  have HG3:=zq hg3;rw[hg3]at hH4;have HO4:=zq (HO3.out.under hb4);have HB4:=tB HB3 hb4;have HK4:=uH HK3 hb4;have HY4:=uH HY3 hb4;have HL4:=zq hH4;clear hw4 hb4 hg3 hH4 HO3 HB3 HK3 HY3;go_upto_region 7 with fail;rw[HW4.out];simp only[HG3.out];clear HW4 HG3 p0 p1 v1 v2 hm24;have y1:w4.cell? ⟨g2,1,none⟩=some (.int .i64 be):=HY4.out.cell 1;have k2:w4.cell? ⟨g1,2,none⟩=some (.bool xr):=HK4.out.cell 2;obtain⟨w5,hw5⟩: ∃u,w4.alloc (.cells #[.int .i64 be,.bool xr] 30)=u:=⟨_,rfl⟩
  have hb5:Below w4.heap.size w4 w5:=by rw[<-hw5];exact bA
  have hH5:Has w5 w4.heap.size 30 #[.int .i64 be,.bool xr]:=by rw[<-hw5];exact Has.made _ _ _
  have HW5:=zq hw5;obtain⟨g4,hg4⟩: ∃g,w4.heap.size=g:=⟨_,rfl⟩
  have HG4:=zq hg4;rw[hg4]at hH5;have HO5:=zq (HO4.out.under hb5);have HB5:=tB HB4 hb5;have HK5:=uH HK4 hb5;have HY5:=uH HY4 hb5;have HL5:=uH HL4 hb5;have HX5:=zq hH5;clear hw5 hb5 hg4 hH5 HO4 HB4 HK4 HY4 HL4;go_upto_region 8 with fail;rw[HW5.out];simp only[HG4.out];clear HW5 HG4 y1 k2;have k0:w5.cell? ⟨g1,0,none⟩=some (.bool xt):=HK5.out.cell 0
  cases xt with
  |false=>
   have HFF:=zq (show F=([],20)from by rw[<-HFO.out,if_pos rfl]);clear HFO;go_wp2;go_ret2
   exact⟨none,0,0,by rw[HFF.out];rfl,by rw[HFF.out];exact OwR.nil _ _ _ _ _,HUP.out _ HB5.out⟩
  |true=>
   have HFO:=zq (by have h_:=HFO.out;rw[if_neg (by decide)]at h_;exact h_);go_upto_region 10 with fail;clear k0
   cases hbf:balF t xg with
   |none=>
    have HFF:=zq (show F=([],4)from by rw[<-HFO.out,hbf]);obtain rfl:ok=false:=by rw[<-HOK.out,hbf];rfl
    clear HFO hbf;go_wp2;go_ret2
    exact⟨none,0,0,by rw[HFF.out];rfl,by rw[HFF.out];exact OwR.nil _ _ _ _ _,HUP.out _ HB5.out⟩
   |some bz=>
    obtain rfl:ok=true:=by rw[<-HOK.out,hbf];rfl
    obtain rfl:bz=⟨bi,be,ba⟩:=by rw[<-HBQ.out];unfold balR;rw[hbf];rfl
    have HBE:=zq (show edgeB t be=true from(bal_find HCK.out (List.mem_of_find?_eq_some hbf)).2.2.1);have HFO:=zq (by have h_:=HFO.out;rw[hbf]at h_;dsimp only at h_;rw[HLY.out]at h_;exact h_);dsimp only at HFO;clear hbf HBQ HOK;have y1:w5.cell? ⟨g2,1,none⟩=some (.int .i64 be):=HY5.out.cell 1;have l0:w5.cell? ⟨g3,0,none⟩=some (.int .i64 ye):=HL5.out.cell 0;go_upto_region 12 with fail;by_cases z:be=ye
    ·have z1:(be==ye)=true:=by simp[z]
     have HFO:=zq (show qa9 t path (ks.drop (i+1))=F from by have h_:=HFO.out;rw[if_pos z]at h_;exact h_);clear z;go_wp2;go_roundg (k1-1)
     case measure=>have:=HIN.out;omega
     case rel=>exact⟨i+1,_,m,d,path,by have:=HIN.out;omega,by have:=HIN.out;omega,by first|go_num|(rw[IntWalk.wrap64_in _ (by have h1_:=HIN.out;have h2_:=HNB.out;omega)];go_num),rfl,HO5,HM,HED,HFO,HB5⟩
    have z1:(be==ye)=false:=by simp[z]
    have HFO:=zq (by have h_:=HFO.out;rw[if_neg z]at h_;exact h_);clear z;have HAX:=zq (fun W (hW:Below wa.heap.size wa W)=>HAF.out W (HUP.out _ hW) ⟨ye,yr⟩);unfold stA13 at HAX;dsimp only at HAX;have HCN:=zq (fun W A c (h_:SlO stC 2 W A (qau t ⟨ye,yr⟩).length c (qau t ⟨ye,yr⟩))=>qft (qau t ⟨ye,yr⟩) ⟨be,xr⟩ A (qau t ⟨ye,yr⟩).length c W h_ (qf6 t _ (qax HLT.out).1));unfold stA13 at HCN;dsimp only at HCN;obtain⟨mt,hmt⟩: ∃q,mayT t ⟨ye,yr⟩ ⟨be,xr⟩=q:=⟨_,rfl⟩
    have HMT:=zq (show qb1 (qau t ⟨ye,yr⟩) ⟨be,xr⟩=mt from by rw[<-hmt,Bool.eq_iff_iff,qc4,qbd];exact⟨fun g_=>g_.2.2,fun g_=>⟨HYE.out,HBE.out,g_⟩⟩);rw[hmt]at HFO;rw[HMT.out]at HCN;clear hmt;go_upto_region 13 with fail;clear z1 y1 l0;refine wp_region_held_drew (S:=(fun W_=>(Has W_ (w.heap.size) 27 (tpC t a))/\(Has W_ (g3) 30 #[.int .i64 ye,.bool yr])/\(Has W_ (g4) 30 #[.int .i64 be,.bool xr])/\(Has W_ (g2) 151 #[.int .i64 bi,.int .i64 be,.int .i64 ba])/\(Below wa.heap.size wa W_))) (by kernel_rfl) ?_ (fun hHeld=>?_)
    ·exact⟨(H0.out _ HB5.out).draw,HL5.out.draw,HX5.out.draw,HY5.out.draw,qaf HB5.out⟩
    have HO5:=zq HO5.out.draw1;refine tlZ 0 55 w.heap.size (tpC t a) (fun _ ⟨h_,_,_,_,_⟩=>h_) (h:=?_);simp only[lyZ];refine tlZ 1 56 g3 #[.int .i64 ye,.bool yr] (fun _ ⟨_,h_,_,_,_⟩=>h_) (h:=?_);simp only[lyZ];refine tlZ 3 58 g4 #[.int .i64 be,.bool xr] (fun _ ⟨_,_,h_,_,_⟩=>h_) (h:=?_);simp only[lyZ];refine aoZ 2 (some 57) (fun K hK=>?_);go_simp;obtain⟨s0,s1,s2,s3,s4⟩:=hHeld;refine(HAX.out _ s4).mono ?_;rintro e_ q1 ⟨AA,ac,rfl,hsa_,hb_⟩;have HO5:=zq (HO5.out.under hb_);have HSA:=zq (hsa_);go_wp2_with fail;refine hK.out _ _ ?_ (fun hHeld=>?_)
    ·exact⟨s0.u hb_,s1.u hb_,s2.u hb_,s3.u hb_,bu s4 hb_⟩
    clear hK K s0 s1 s2 s3 s4
    try simp only[lyZ]
    refine aoZ 4 (some 59) (fun K hK=>?_);go_simp;obtain⟨s0,s1,s2,s3,s4⟩:=hHeld;refine(HCN.out _ AA ac HSA.out).mono ?_;rintro e_ q2 ⟨rfl,hb2_⟩;have HO5:=zq (HO5.out.under hb2_);have HSA:=zq (HSA.out.under hb2_);go_wp2_with fail;refine hK.out _ _ ?_ (fun hHeld=>?_)
    ·exact⟨s0.u hb2_,s1.u hb2_,s2.u hb2_,s3.u hb2_,bu s4 hb2_⟩
    clear hK K s0 s1 s2 s3 s4
    try simp only[lyZ]
    refine tkZ 5 60 (h:=?_);simp only[lyZ];refine tkZ 6 54 (h:=?_);simp only[lyZ];refine dnZ ?_;obtain⟨w6,hw6⟩: ∃u,u=q2:=⟨_,rfl⟩
    subst hw6;have HX6:=zq hHeld.2.2.1;have HY6:=zq hHeld.2.2.2.1;have HB6:=zq hHeld.2.2.2.2;have HO6:=zq HO5.out;clear hHeld HAX HCN HO5
    cases mt with
    |false=>
     have HFF:=zq (show F=([],141)from by rw[<-HFO.out,if_pos rfl]);clear HFO;go_wp2;go_ret2
     exact⟨none,0,0,by rw[HFF.out];rfl,by rw[HFF.out];exact OwR.nil _ _ _ _ _,HUP.out _ HB6.out⟩
    |true=>
     have HFO:=zq (by have h_:=HFO.out;rw[if_neg (by decide)]at h_;exact h_);have HGO:=zq (qem path be (some ⟨gp,0,none⟩) (m+1) d w6 HO6.out.sl (by have:=HM.out;omega));rw[goes_met17 path be xr]at HGO;obtain⟨gm,hgm⟩: ∃q,metS path [⟨be,xr⟩]=q:=⟨_,rfl⟩
     rw[hgm]at HGO HFO;clear hgm;have y1:w6.cell? ⟨g2,1,none⟩=some (.int .i64 be):=HY6.out.cell 1;by_cases z:m=23
     ·have z1:(((m+1:Nat):Int)==24)=true:=by simp;omega
      have z2:((m+1:Nat):Int)=24:=by omega
      have z3:(m:Int)+1=24:=by omega
      have HFF:=zq (show F=([],2)from by rw[<-HFO.out,if_pos (Or.inr (by rw[HO6.out.2];omega))]);clear HFO;have HZ:=zq z;clear z;go_wp2;go_ret2
      exact⟨none,0,0,by rw[HFF.out];rfl,by rw[HFF.out];exact OwR.nil _ _ _ _ _,HUP.out _ HB6.out⟩
     have z1:(((m+1:Nat):Int)==24)=false:=by simp;omega
     have z2: ¬((m+1:Nat):Int)=24:=by omega
     have z3: ¬(m:Int)+1=24:=by omega
     have hm22:m<23:=by have:=HM.out;omega
     go_upto_region 15 with fail;go_wp2_with fail;refine HGO.out.mono ?_;rintro e_ w7 ⟨rfl,hb7⟩;have HB7:=tB HB6 hb7;have HO7:=zq (HO6.out.under hb7);have HX7:=uH HX6 hb7;clear hb7 HGO y1 HB6 HO6 HX6 HY6
     cases gm with
     |true=>
      have HFF:=zq (show F=([],2)from by rw[<-HFO.out,if_pos (Or.inl rfl)]);clear HFO;go_wp2;go_ret2
      exact⟨none,0,0,by rw[HFF.out];rfl,by rw[HFF.out];exact OwR.nil _ _ _ _ _,HUP.out _ HB7.out⟩
     |false=>
      have HFO:=zq (show qa9 t (path++[⟨be,xr⟩]) (ks.drop (i+1))=F from by have h_:=HFO.out;rw[if_neg (by rintro(h2_|h2_);exact absurd h2_ (by decide);rw[HO7.out.2]at h2_;omega)]at h_;exact h_);have HED2:=zq (show∀s∈path++[⟨be,xr⟩],edgeB t s.edge=true from fun s hs=>by rcases List.mem_append.1 hs with h_|h_;exact HED.out s h_;rw[List.mem_singleton]at h_;subst h_;exact HBE.out);clear z1 z2 z3 z;obtain⟨hO,hSL,h1,hBD⟩:=pourR 16 (HO7.out.under ((Below.refl _ _).alloc (Nat.le_refl _) (.cells #[.int .i64 be,.bool xr] 30))) (⟨rfl,qa7 (Has.made _ _ _) rfl⟩:SlO stC 2 (w7.alloc (.cells #[.int .i64 be,.bool xr] 30)) (some ⟨w7.heap.size,0,none⟩) 1 1 [⟨be,xr⟩]) qc0 (Nat.le_trans HB7.out.size (by simp)) (by omega) (by omega);go_wp2_with (first|(with_reducible refine ldZ 72 HX7.out ?_)|(with_reducible refine qaG (o:=⟨some 74,_,_,_,_,_⟩) rfl (.tmp 71) (.tmp 73) 35 rfl wa.heap.size 30 (.agg #[.int .i64 0,.bool false]) 2 16 Tryz.underlying35 qa6 ?hz1 (by decide) (some ⟨gp,0,none⟩) (m+1) d _ ?hs1 hO (some ⟨w7.heap.size,0,none⟩) 1 1 _ ?hx1 hSL h1 hBD ?next1))
      all_goals try rfl
      intro B8 d8 w8 ho8 hg8;have HO8:=zq (show OwR stC 2 30 wa.heap.size w8 B8 (m+1+1) d8 (path++[⟨be,xr⟩])from OwR.poured (l':=[⟨be,xr⟩]) HO7.out.2 rfl ho8.out);have HB8:=zq (qai (HB7.out.trans ((bA).mono HB7.out.size)) (Nat.le_trans HB7.out.size (by simp)) hO.out (Nat.le_refl _) rfl hg8.out);have HM8:=zq (show m+1+1<=24 from by omega);clear ho8 hg8 hO hSL h1 hBD HO7 HB7 HX7 hm22;go_wp2;go_roundg (k1-1)
      case measure=>have:=HIN.out;omega
      case rel=>exact⟨i+1,B8,m+1,d8,path++[⟨be,xr⟩],by have:=HIN.out;omega,by have:=HIN.out;omega,by first|go_num|(rw[IntWalk.wrap64_in _ (by have h1_:=HIN.out;have h2_:=HNB.out;omega)];go_num),rfl,HO8,HM8,HED2,HFO,HB8⟩
end
section
open Go.RowKit
open Go.Great
def qch (t:Tp3)(s0:St3)(l:List PkE):List St3×Int:=match (qba l).find? fun q=>q.1==5 with
 |none=>([s0],0)
 |some q=>qej t [s0] q.2
def readT17 (t:Tp3)(ref:Int)(rev:Bool)(s0:St3)(l:List PkE):Ma3×Int:=match l with
 |[]=>(noMa,50)
 |p::r=>
  if(rsecE p.V rev).2.2≠0 then(noMa,(rsecE p.V rev).2.2)
  else if(qch t s0 (p::r)).2≠0 then(noMa,(qch t s0 (p::r)).2)
  else if mayM t ⟨ref,rev,(qch t s0 (p::r)).1,(rsecE p.V rev).1,(rsecE p.V rev).2.1⟩=true then(⟨ref,rev,(qch t s0 (p::r)).1,(rsecE p.V rev).1,(rsecE p.V rev).2.1⟩,0)else(noMa,7)
theorem read_bad17 {t:Tp3}{ref:Int}{rev:Bool}{L:List (Int×List Int)}(h:(locE t ref rev 0).2≠0):readE t qaV ref rev L=(noMa,(locE t ref rev 0).2):=by
 rw[qcB]at h⊢;unfold readE;by_cases hc:qaE t=0
 ·rw[if_pos hc]at h⊢
  rw[if_neg (fun h2=>h2 hc)]
  cases hb:balF t ref with
  |none=>rfl
  |some b=>rw[hb]at h;exact absurd rfl h
 ·rw[if_neg hc,if_pos hc]
theorem read_go17 {t:Tp3}{ref:Int}{rev:Bool}{l:List PkE}{x:Ps3}(h:locE t ref rev 0=(x,0)):readE t qaV ref rev (qba l)=if qdK l=false then(noMa,50)else readT17 t ref rev (stepP x) l:=by
 rw[qcB]at h;unfold readE;by_cases hc:qaE t=0
 ·rw[if_pos hc]at h
  rw[if_neg (fun h2=>h2 hc)]
  cases hb:balF t ref with
  |none=>rw[hb]at h;injection h with _ h;exact absurd h (by decide)
  |some b=>
   rw[hb]at h;injection h with h _
   subst h;dsimp only
   cases l with
   |nil=>rfl
   |cons p r=>
    have e1:qba (p::r)=(p.id,p.V)::qba r:=rfl;have e2:(qba (p::r)).all qaV=(p::r).all fun p=>qaV (p.id,p.V):=by unfold qba;rw[List.all_map];rfl
    have e3:qdK (p::r)=(p.id==15 &&(p::r).all fun p=>qaV (p.id,p.V)):=rfl;rw[e3,<-e2];by_cases h1:p.id≠15\/(qba (p::r)).all qaV=false
    ·have h2:(p.id==15 &&(qba (p::r)).all qaV)=false:=by
      rcases h1 with h1|h1
      ·rw[beq_eq_false_iff_ne.2 h1];rfl
      ·rw[h1,Bool.and_false]
     rw[h2,if_pos rfl,e1];dsimp only;rw[if_pos (by rw[<-e1];exact h1)]
    ·have h2:(p.id==15 &&(qba (p::r)).all qaV)=true:=by
      have h3:p.id=15:=Classical.not_not.1 fun h=>h1 (Or.inl h);have h4:(qba (p::r)).all qaV=true:=by
       cases hq:(qba (p::r)).all qaV with
       |true=>rfl
       |false=>exact absurd (Or.inr hq) h1
      rw[h3,h4]
      rfl
     rw[h2,if_neg (by decide)];unfold readT17 qch rsecE;rw[e1]at h1⊢;dsimp only;rw[if_neg h1];by_cases h5:p.V.getD 0 0≠dirB rev
     ·rw[if_pos h5,if_pos h5,if_pos (by decide)]
     ·rw[if_neg h5,if_neg h5]
      by_cases h6:7<p.V.getD 4 0
      ·rw[if_pos h6,if_pos h6,if_pos (by decide)]
      ·rw[if_neg h6,if_neg h6]
       generalize qar (p.V.getD 1 0) (p.V.getD 4 0+1).toNat 0 (p.V.drop 5)=s;obtain⟨s1,s2,s3⟩:=s;dsimp only;by_cases h7:s3≠0
       ·rw[if_pos h7,if_pos h7,if_pos h7]
       ·rw[if_neg h7,if_neg h7]
        rfl
 ·rw[if_neg hc]at h
  injection h with _ h
  exact absurd h (by decide)
theorem follow_len17 (t:Tp3)(path:List St3)(ks:List Lk17):(qa9 t path ks).1.length<=path.length+ks.length:=by
 induction ks generalizing path with
 |nil=>exact Nat.le_refl _
 |cons k r ih=>
  rw[qa9];split
  ·simp
  ·split
   ·simp
   ·split
    ·have:=ih path;rw[List.length_cons];omega
    ·split
     ·simp
     ·split
      ·simp
      ·have:=ih (path++[⟨‹Bl3›.edge,k.rev⟩]);rw[List.length_append]at this;simp only[List.length_cons,List.length_nil]at this⊢;omega
theorem dm_le17 (x u:Int):(dmOf x u).1<=3276600:=by
 have h:=qcL u;unfold dmOf;split
 ·show(0:Int)<=3276600;decide
 ·split
  ·show(0:Int)<=3276600;decide
  ·show x*qaU u<=3276600
   rcases h with h|h|h|h<;>rw[h]<;>omega
theorem secs_top17 {u to_:Int}{k:Nat}{V:List Int}: ∀s∈(qar u k to_ V).1,s.to_<=to_+k*3276600:=by
 induction k generalizing to_ V with
 |zero=>intro s hs;cases hs
 |succ k ih=>
  intro s hs;rw[qar]at hs;split at hs
  ·cases hs
  ·split at hs
   ·cases hs
   ·split at hs
    ·cases hs
    ·dsimp only at hs
     split at hs
     ·cases hs
     ·have h1:=dm_le17 (V.getD 0 0) u
      rcases List.mem_cons.1 hs with rfl|hs
      ·show to_+(dmOf (V.getD 0 0) u).1<=_
       omega
      ·have h2:=ih s hs
       omega
theorem rsec_top17 {V:List Int}{rev:Bool}: ∀s∈(rsecE V rev).1,s.to_<=9223372036854775807:=by
 intro s hs;unfold rsecE at hs;split at hs
 ·cases hs
 ·split at hs
  ·cases hs
  ·rename_i h1 h2
   dsimp only at hs;split at hs
   ·cases hs
   ·have h3:=secs_top17 s hs
    omega
theorem opn_read (t:Tp3)(a:TpA)(ref:Int)(rev:Bool)(l:List PkE)(A:Option Addr)(n c:Nat)(w:World)(ht:TopR w t a)(hl:qaH t=true)(hcj:t.joints.length<=a.cj)(hs:SlK w A n c l)(hn:n<=30)(hv: ∀p∈l,p.n<=3000)(hwd:Wd w):Calls Tryz.prog 18 #[.agg (tpC t a),.int .i64 ref,.bool rev,.slice A n c] w fun r w'=> ∃b,r= .returned (.tuple #[.agg (maC (readE t qaV ref rev (qba l)).1 b),.int .i64 (readE t qaV ref rev (qba l)).2])/\MaR w' (readE t qaV ref rev (qba l)).1 b/\Below w.heap.size w w':=by
 have HL0:=zq (fun W (hW:Below w.heap.size w W)=>qci t a ref rev 0 W (ht.under hW) hl hcj);have HAR:=zq (fun W (hW:Below w.heap.size w W)=>opread_ok17 l A n c W (hs.under hW) hn hv (hwd.under hW));have HSK:=zq (fun W (hW:Below w.heap.size w W)=>hs.under hW);have HMY:=zq (fun W (hW:Below w.heap.size w W) m b hm h1 h2=>opn_may t a m b W (ht.under hW) hl hcj hm h1 h2);have HFO:=zq (fun W (hW:Below w.heap.size w W) s0 ks B m d hck he0 hk hm=>opfollow_any t a s0 ks B m d W (ht.under hW) hl hck he0 hk hm);have HV:=zq hv;have HNN:=zq hn;obtain⟨R,hR⟩:=geZ (readE t qaV ref rev (qba l));have HR:=zq hR;rw[hR];obtain⟨M,E⟩:=R;dsimp only;obtain⟨x,e,hloc⟩: ∃x e,locE t ref rev 0=(x,e):=⟨_,_,rfl⟩
 have HLOC:=zq hloc;rw[hloc]at HL0;obtain⟨xe,xa,xr⟩:=x;unfold psA at HL0;dsimp only at HL0;obtain⟨wa,hwa,hbwa,HWA,HBWA,h0,h1⟩:=bx2Z w 27 (tpC t a) 38 #[.int .i64 0,.bool false,.slice none 0 0,.slice none 0 0,.int .i64 0];have H0:=zH h0;have H1:=zH h1;have HUP:=zq (fun W (hW:Below wa.heap.size wa W)=>HBWA.out.trans (hW.mono HBWA.out.size));have hg0:w.heap.size<wa.heap.size:=h0.lt;have hg1:w.heap.size+1<wa.heap.size:=h1.lt;clear hwa hbwa h0 h1 ht hl hcj hs hn hv hwd hloc hR;go_enter Tryz.func18,Tryz.ntmps18;go_upto_region 1 with fail;rw[HWA.out];clear HWA;go_wp2_with (with_reducible refine ldZ 14 (H0.out wa (Below.refl _ _)) ?_);refine(HL0.out wa HBWA.out).mono ?_;rintro e_ w1 ⟨rfl,hb1⟩;have HB1:=zq hb1;clear hb1 HL0;go_upto_region 2 with fail;obtain⟨w2,hw2⟩:=geZ (w1.alloc (.cells #[.int .i64 xe,.int .i64 xa,.bool xr] 51));rw[hw2];have HB2:=zq (show Below wa.heap.size wa w2 from by rw[<-hw2];exact HB1.out.alloc HB1.out.size _);have hH:Has w2 w1.heap.size 51 #[.int .i64 xe,.int .i64 xa,.bool xr]:=by rw[<-hw2];exact Has.made _ _ _
 obtain⟨gP,hgP⟩: ∃g,w1.heap.size=g:=⟨_,rfl⟩
 rw[hgP]at hH;simp only[hgP];have HHP:=zH hH;have HX2:=zq (fun W (hW:Below w2.heap.size w2 W)=>HB2.out.trans (hW.mono HB2.out.size));clear hw2 hH hgP HB1;by_cases z0:e=0;rotate_left
 ·have q0:(e !=0)=true:=by simp[z0]
  obtain⟨rfl,rfl⟩:M=noMa/\E=e:=by have h_:=HR.out;rw[read_bad17 (by rw[HLOC.out];exact z0),HLOC.out]at h_;injection h_ with h1_ h2_;exact⟨h1_.symm,h2_.symm⟩
  clear z0;have HZ:=zq (H1.out w2 HB2.out);have HRR:=zq (qaa HZ.out #[.int .i64 0,.bool false,.slice none 0 0,.slice none 0 0,.int .i64 0]);have HBF:=zq (qab (g:=w.heap.size+1) (HBWA.out.trans (HB2.out.mono HBWA.out.size)) (by omega) #[.int .i64 0,.bool false,.slice none 0 0,.slice none 0 0,.int .i64 0]);go_wp2_with (with_reducible refine stZ #[.int .i64 0,.bool false,.slice none 0 0,.slice none 0 0,.int .i64 0] HZ.out ?_);refine rtZ HRR.out ?_;exact⟨⟨none,0,none,0⟩,rfl,⟨SlO.nil _ _ _,SlO.nil _ _ _,Nat.le_refl _,Nat.le_refl _,fun s hs=>by cases hs⟩,HBF.out⟩
 subst z0;have q0:((0:Int) !=0)=false:=rfl;obtain⟨hck,_,hrx,_⟩:=qcY HLOC.out;have HCK:=zq hck;have HEX:=zq (show edgeB t (stepP ⟨xe,xa,xr⟩).edge=true from(qbh.1 (qaO.1 hrx).2).1);have HR:=zq ((read_go17 HLOC.out).symm.trans HR.out);have HARX:=zq (HAR.out w2 (HUP.out _ HB2.out));obtain⟨rb,hrb⟩: ∃q,qdK l=q:=⟨_,rfl⟩
 rw[hrb]at HARX HR;have HRB:=zq hrb;clear hrb hck hrx HAR;go_upto_region 4 with fail;clear q0;go_wp2_with fail;refine HARX.out.mono ?_;rintro e_ w3 ⟨rfl,hb3⟩;have HB3:=tB HB2 hb3;have HP3:=zq (HHP.out _ hb3);clear hb3 HARX HHP HX2 HB2
 cases rb with
 |false=>
  obtain⟨rfl,rfl⟩:M=noMa/\E=50:=by have h_:=HR.out;rw[if_pos rfl]at h_;injection h_ with h1_ h2_;exact⟨h1_.symm,h2_.symm⟩
  have HZ:=zq (H1.out w3 HB3.out);have HRR:=zq (qaa HZ.out #[.int .i64 0,.bool false,.slice none 0 0,.slice none 0 0,.int .i64 0]);have HBF:=zq (qab (g:=w.heap.size+1) (HBWA.out.trans (HB3.out.mono HBWA.out.size)) (by omega) #[.int .i64 0,.bool false,.slice none 0 0,.slice none 0 0,.int .i64 0]);go_wp2_with (with_reducible refine stZ #[.int .i64 0,.bool false,.slice none 0 0,.slice none 0 0,.int .i64 0] HZ.out ?_);refine rtZ HRR.out ?_;exact⟨⟨none,0,none,0⟩,rfl,⟨SlO.nil _ _ _,SlO.nil _ _ _,Nat.le_refl _,Nat.le_refl _,fun s hs=>by cases hs⟩,HBF.out⟩
 |true=>
 have HR:=zq (by have h_:=HR.out;rw[if_neg (by decide)]at h_;exact h_);obtain⟨w4,hw4⟩: ∃u,w3.alloc (.cells #[.int .i64 ref,.bool rev,.slice none 0 0,.slice none 0 0,.int .i64 0] 38)=u:=⟨_,rfl⟩
 have hb4:Below w3.heap.size w3 w4:=by rw[<-hw4];exact bA
 have hH4:Has w4 w3.heap.size 38 #[.int .i64 ref,.bool rev,.slice none 0 0,.slice none 0 0,.int .i64 0]:=by rw[<-hw4];exact Has.made _ _ _
 obtain⟨gm,hgm⟩: ∃g,w3.heap.size=g:=⟨_,rfl⟩
 rw[hgm]at hH4;have hgm2:wa.heap.size<=gm:=by rw[<-hgm];exact HB3.out.size
 have HB4:=tB HB3 hb4;have HP4:=uH HP3 hb4;have HM4:=zq hH4;have HW4:=zq hw4;have HGM:=zq hgm;clear hw4 hb4 hH4 hgm HB3 HP3
 cases l with
 |nil=>exact absurd HRB.out (by decide)
 |cons p r=>
 have hmem:p∈p::r:=List.mem_cons_self ..;have hrd:(p.id==15 &&(p::r).all fun p=>qaV (p.id,p.V))=true:=HRB.out;obtain⟨hid,hall⟩:=Bool.and_eq_true_iff.1 hrd;have hid:p.id=15:=by simpa using hid
 have HALL:=zq (show∀q∈p::r,qaV (q.id,q.V)=true from List.all_eq_true.1 hall);have hp15:=HALL.out p hmem;rw[hid]at hp15;have HP15:=zq hp15;have HPN:=zq (HV.out p hmem);have HS4:=zq (HSK.out w4 (HUP.out _ HB4.out));obtain⟨bk,off,hA,d0,d1⟩:=HS4.out.pk17 (j:=0) (x:=p) rfl;subst hA;have d0':w4.cell? ⟨bk,off,none⟩=some (.int .i64 p.id):=by rw[show off=off+0*2 by omega];exact d0
 have d1':w4.cell? ⟨bk,off+1,none⟩=some (.slice p.A p.n p.c):=by rw[show off+1=off+0*2+1 by omega];exact d1
 have HSE:=zq (HS4.out.each p hmem);have hn1:0<n:=by rw[<-HS4.out.len,List.length_cons];omega
 have u1:(0:Int)<(n:Int):=by omega
 have HRS:=zq (oprdsecs_any p.id p.A p.n p.c p.V rev w4 HSE.out (by have:=HPN.out;omega) HP15.out);obtain⟨RS,hRS⟩: ∃q,rsecE p.V rev=q:=⟨_,rfl⟩
 have HTOP:=zq (rsec_top17 (V:=p.V) (rev:=rev));have HR:=zq (show(if(rsecE p.V rev).2.2≠0 then(noMa,(rsecE p.V rev).2.2)else if(qch t (stepP ⟨xe,xa,xr⟩) (p::r)).2≠0 then(noMa,(qch t (stepP ⟨xe,xa,xr⟩) (p::r)).2)else if mayM t ⟨ref,rev,(qch t (stepP ⟨xe,xa,xr⟩) (p::r)).1,(rsecE p.V rev).1,(rsecE p.V rev).2.1⟩=true then(⟨ref,rev,(qch t (stepP ⟨xe,xa,xr⟩) (p::r)).1,(rsecE p.V rev).1,(rsecE p.V rev).2.1⟩,0)else(noMa,7))=(M,E)from HR.out);rw[hRS]at HRS HTOP HR;obtain⟨SL,SG,SE⟩:=RS;dsimp only at HRS HTOP HR;clear hRS hmem hrd hid hall hp15 hn1 d0 d1 HP15 HPN HSE;go_upto_region 7 with fail;rw[HW4.out];simp only[HGM.out];clear HW4 HGM;go_wp2_with fail;refine HRS.out.mono ?_;rintro e_ w5 ⟨SB,sm,sd,G,rfl,hsec,hsm,hb5⟩;have HSEC:=zq hsec;have HSM:=zq hsm;have HB5:=tB HB4 hb5;have HP5:=uH HP4 hb5;have HM5:=uH HM4 hb5;have HW45:=zq hb5.size;have HG4:=zq HB4.out.size;clear hb5 hsec hsm HRS HB4 HP4 HM4 d0' d1' u1;have HMa:=zq (qaa HM5.out #[.int .i64 ref,.bool rev,.slice none 0 0,.slice SB sm sd,.int .i64 0]);have HMb:=zq (qaa HMa.out #[.int .i64 ref,.bool rev,.slice none 0 0,.slice SB sm sd,.int .i64 G]);have HBb:=zq (qab (g:=gm) (qab (g:=gm) HB5.out hgm2 #[.int .i64 ref,.bool rev,.slice none 0 0,.slice SB sm sd,.int .i64 0]) hgm2 #[.int .i64 ref,.bool rev,.slice none 0 0,.slice SB sm sd,.int .i64 G]);have hpm:gP≠gm:=by intro e_;subst e_;have h1_:=HP5.out;have h2_:=HM5.out;unfold Has at h1_ h2_;rw[h1_]at h2_;injection h2_ with h2_;injection h2_ with _ h2_;exact absurd h2_ (by decide)
 have HPb:=zq (qad (g:=gm) (qad (g:=gm) HP5.out hpm #[.int .i64 ref,.bool rev,.slice none 0 0,.slice SB sm sd,.int .i64 0]) hpm #[.int .i64 ref,.bool rev,.slice none 0 0,.slice SB sm sd,.int .i64 G]);obtain⟨w6,hw6⟩: ∃u,(w5.setRow gm #[.int .i64 ref,.bool rev,.slice none 0 0,.slice SB sm sd,.int .i64 0]).setRow gm #[.int .i64 ref,.bool rev,.slice none 0 0,.slice SB sm sd,.int .i64 G]=u:=⟨_,rfl⟩
 have HSC:Hid (SE=0->OwR scC17 2 66 wa.heap.size w6 SB sm sd SL):=zq (fun h_=>by have ho_:=(HSEC.out h_).2.to_base HG4.out;rw[<-hw6];have hk_:=ho_.kept (qal w5 gm #[.int .i64 ref,.bool rev,.slice none 0 0,.slice SB sm sd,.int .i64 0]) (.inr (ho_.apart HM5.out (by decide)));exact hk_.kept (qal _ gm #[.int .i64 ref,.bool rev,.slice none 0 0,.slice SB sm sd,.int .i64 G]) (.inr (hk_.apart HMa.out (by decide))));rw[hw6]at HMb HBb HPb;have HW6:=zq hw6;clear hw6;go_upto_region 8 with(first|(with_reducible refine qap (o:=⟨none,_,_,_,_,_⟩) rfl 36 _ _ rfl (gm) 3 (.slice SB sm sd) rfl rfl 38 #[.int .i64 ref,.bool rev,.slice none 0 0,.slice none 0 0,.int .i64 0] HM5.out (Nat.le_of_ble_eq_true rfl) (by kernel_rfl) rfl #[.int .i64 ref,.bool rev,.slice none 0 0,.slice SB sm sd,.int .i64 0] rfl ?_)|(with_reducible refine qap (o:=⟨none,_,_,_,_,_⟩) rfl 3 _ _ rfl (gm) 4 (.int .i64 G) rfl rfl 38 #[.int .i64 ref,.bool rev,.slice none 0 0,.slice SB sm sd,.int .i64 0] HMa.out (Nat.le_of_ble_eq_true rfl) (by kernel_rfl) rfl #[.int .i64 ref,.bool rev,.slice none 0 0,.slice SB sm sd,.int .i64 G] rfl ?_))
 rw[HW6.out];clear HW6 HMa HM5 HB5 HP5;by_cases z:SE=0;rotate_left
 ·have q0:(SE !=0)=true:=by simp[z]
  obtain⟨rfl,rfl⟩:M=noMa/\E=SE:=by have h_:=HR.out;rw[if_pos z]at h_;injection h_ with h1_ h2_;exact⟨h1_.symm,h2_.symm⟩
  clear z;have HZ:=zq (H1.out w6 HBb.out);have HRR:=zq (qaa HZ.out #[.int .i64 0,.bool false,.slice none 0 0,.slice none 0 0,.int .i64 0]);have HBF:=zq (qab (g:=w.heap.size+1) (HBWA.out.trans (HBb.out.mono HBWA.out.size)) (by omega) #[.int .i64 0,.bool false,.slice none 0 0,.slice none 0 0,.int .i64 0]);go_wp2_with (with_reducible refine stZ #[.int .i64 0,.bool false,.slice none 0 0,.slice none 0 0,.int .i64 0] HZ.out ?_);refine rtZ HRR.out ?_;exact⟨⟨none,0,none,0⟩,rfl,⟨SlO.nil _ _ _,SlO.nil _ _ _,Nat.le_refl _,Nat.le_refl _,fun s hs=>by cases hs⟩,HBF.out⟩
 subst z;have q0:((0:Int) !=0)=false:=rfl;obtain rfl:G=SG:=(HSEC.out rfl).1;have HSO:=zq (HSC.out rfl);have HR:=zq (by have h_:=HR.out;rw[if_neg (by simp)]at h_;exact h_);have HSP:=zq (fun W=>qcC ⟨xe,xa,xr⟩ W);unfold psA stA13 stepP at HSP;dsimp only at HSP;have HRL:=zq (fun W (hW:Below wa.heap.size wa W)=>oprdlinks_any (p::r) (some ⟨bk,off,none⟩) n c W (HSK.out W (HUP.out _ hW)) HNN.out HV.out HALL.out);have HFX:=zq (fun W (hW:Below wa.heap.size wa W) ks B m d hk hm=>HFO.out W (HUP.out _ hW) (stepP ⟨xe,xa,xr⟩) ks B m d HCK.out HEX.out hk hm);unfold stA13 stepP at HFX;dsimp only at HFX;clear HSEC HFO HSK HSC;go_upto_region 10 with fail;clear q0;skip;refine wp_region_held_drew (S:=(fun W_=>(Has W_ (w.heap.size) 27 (tpC t a))/\(Has W_ (gP) 51 #[.int .i64 xe,.int .i64 xa,.bool xr])/\(Below wa.heap.size wa W_))) (by kernel_rfl) ?_ (fun hHeld=>?_)
 ·exact⟨(H0.out _ HBb.out).draw,HPb.out.draw,qaf HBb.out⟩
 have HMb:=zq HMb.out.draw;have HSO:=zq HSO.out.draw1;refine tlZ 0 47 w.heap.size (tpC t a) (fun _ ⟨h_,_,_⟩=>h_) (h:=?_);simp only[lyZ];refine tlZ 1 48 gP #[.int .i64 xe,.int .i64 xa,.bool xr] (fun _ ⟨_,h_,_⟩=>h_) (h:=?_);simp only[lyZ];refine tkZ 3 50 (h:=?_);simp only[lyZ];refine aoZ 2 (some 49) (fun K hK=>?_);go_simp;obtain⟨s0,s1,s2⟩:=hHeld;refine(HSP.out _).mono ?_;rintro e_ q1 ⟨rfl,hb_⟩;have HMb:=uH HMb hb_;have HSO:=zq (HSO.out.under hb_);go_wp2_with fail;refine hK.out _ _ ?_ (fun hHeld=>?_)
 ·exact⟨s0.u hb_,s1.u hb_,bu s2 hb_⟩
 clear hK K s0 s1 s2
 try simp only[lyZ]
 refine aoZ 4 (some 51) (fun K hK=>?_);go_simp;obtain⟨s0,s1,s2⟩:=hHeld;refine(HRL.out _ s2).mono ?_;rintro e_ q2 ⟨ks,LB,lm,ld,rfl,hls_,hlm_,hlp_,hb2_⟩;have HLP:=zq hlp_;have HLM:=zq hlm_;have HMb:=uH HMb hb2_;have HSO:=zq (HSO.out.under hb2_);have HLS:=zq (hls_);go_wp2_with fail;refine hK.out _ _ ?_ (fun hHeld=>?_)
 ·exact⟨s0.u hb2_,s1.u hb2_,bu s2 hb2_⟩
 clear hK K s0 s1 s2
 try simp only[lyZ]
 refine aoZ 5 (some 52) (fun K hK=>?_);go_simp;obtain⟨s0,s1,s2⟩:=hHeld;obtain⟨LQ,hLQ⟩: ∃q,qa9 t [⟨xe,xr⟩] ks=q:=⟨_,rfl⟩
 have hfx:=HFX.out _ s2 ks LB lm ld HLS.out HLM.out;rw[hLQ]at hfx;obtain⟨LP,LE⟩:=LQ;dsimp only at hfx;have HLQ0:=zq hLQ;clear hLQ;refine hfx.mono ?_;have HKL:=zq (show ks.length<=32 from by rw[HLS.out.1];exact HLM.out);rintro e_ q3 ⟨PB,pm,pd,rfl,hpo_,hb3_⟩;have hz3_:=s2.size;have HMb:=uH HMb hb3_;have HSO:=zq (HSO.out.under hb3_);have HLS:=zq (HLS.out.under hb3_);have HPO:=zq (hpo_.to_base hz3_);go_wp2_with fail;refine hK.out _ _ ?_ (fun hHeld=>?_)
 ·exact⟨s0.u hb3_,s1.u hb3_,bu s2 hb3_⟩
 clear hK K s0 s1 s2
 try simp only[lyZ]
 refine tkZ 6 46 (h:=?_);simp only[lyZ];refine tkZ 7 53 (h:=?_);simp only[lyZ];refine tkZ 8 54 (h:=?_);simp only[lyZ];refine tkZ 9 55 (h:=?_);simp only[lyZ];refine aoZ 10 none (fun K hK=>?_);rw[if_pos (by rfl)];obtain⟨s0,s1,s2⟩:=hHeld;refine qaP 35 _ _ rfl (gm) 2 (.slice PB pm pd) (by rfl) (by rfl) 38 #[.int .i64 ref,.bool rev,.slice none 0 0,.slice SB sm sd,.int .i64 G] HMb.out (Nat.le_of_ble_eq_true rfl) (by kernel_rfl) rfl #[.int .i64 ref,.bool rev,.slice PB pm pd,.slice SB sm sd,.int .i64 G] rfl ?_;have HSO:=zq (HSO.out.kept (qal _ _ #[.int .i64 ref,.bool rev,.slice PB pm pd,.slice SB sm sd,.int .i64 G]) (.inr (HSO.out.apart HMb.out (by decide))));have HPO:=zq (HPO.out.kept (qal _ _ #[.int .i64 ref,.bool rev,.slice PB pm pd,.slice SB sm sd,.int .i64 G]) (.inr (HPO.out.apart HMb.out (by decide))));refine hK.out _ _ ?_ (fun hHeld=>?_)
 ·exact⟨qad s0 (by omega) _,qad s1 (by omega) _,qab s2 (by omega) _⟩
 have HMb:=zq (qaa HMb.out #[.int .i64 ref,.bool rev,.slice PB pm pd,.slice SB sm sd,.int .i64 G]);clear hK K s0 s1 s2
 try simp only[Act.put]
 refine tkZ 11 11 (h:=?_);simp only[lyZ];refine dnZ ?_;obtain⟨w7,hw7⟩: ∃u,u=q3.setRow gm #[.int .i64 ref,.bool rev,.slice PB pm pd,.slice SB sm sd,.int .i64 G]:=⟨_,rfl⟩
 rw[<-hw7]at hHeld HMb HPO HSO⊢;have HB7:=zq hHeld.2.2;clear hHeld hw7 HRL HFX HSP;have HLQ:=zq (show qch t (stepP ⟨xe,xa,xr⟩) (p::r)=(LP,LE)from by rw[<-HLQ0.out];have h_:=HLP.out;unfold qf4 at h_;unfold qch;cases hq_:(qba (p::r)).find? (fun q=>q.1==5)with|none=>rw[hq_]at h_;rw[h_];rfl|some q_=>rw[hq_]at h_;exact h_ t _);have HLL:=zq (show LP.length<=33 from by have h_:=follow_len17 t [⟨xe,xr⟩] ks;rw[HLQ0.out]at h_;have h2_:=HKL.out;simp only[List.length_cons,List.length_nil]at h_;omega);have HR:=zq (show(if LE≠0 then(noMa,LE)else if mayM t ⟨ref,rev,LP,SL,G⟩=true then(⟨ref,rev,LP,SL,G⟩,0)else(noMa,7))=(M,E)from by rw[<-HR.out,HLQ.out]);by_cases z:LE=0;rotate_left
 ·have q0:(LE !=0)=true:=by simp[z]
  obtain⟨rfl,rfl⟩:M=noMa/\E=LE:=by have h_:=HR.out;rw[if_pos z]at h_;injection h_ with h1_ h2_;exact⟨h1_.symm,h2_.symm⟩
  clear z;have HZ:=zq (H1.out w7 HB7.out);have HRR:=zq (qaa HZ.out #[.int .i64 0,.bool false,.slice none 0 0,.slice none 0 0,.int .i64 0]);have HBF:=zq (qab (g:=w.heap.size+1) (HBWA.out.trans (HB7.out.mono HBWA.out.size)) (by omega) #[.int .i64 0,.bool false,.slice none 0 0,.slice none 0 0,.int .i64 0]);go_wp2_with (with_reducible refine stZ #[.int .i64 0,.bool false,.slice none 0 0,.slice none 0 0,.int .i64 0] HZ.out ?_);refine rtZ HRR.out ?_;exact⟨⟨none,0,none,0⟩,rfl,⟨SlO.nil _ _ _,SlO.nil _ _ _,Nat.le_refl _,Nat.le_refl _,fun s hs=>by cases hs⟩,HBF.out⟩
 subst z;have q0:((0:Int) !=0)=false:=rfl;have HR:=zq (by have h_:=HR.out;rw[if_neg (by simp)]at h_;exact h_);have hpl_:LP.length=pm:=HPO.out.2;have hsl_:SL.length=sm:=HSO.out.2;have HMR:Hid (∀W,Below w7.heap.size w7 W->MaR W ⟨ref,rev,LP,SL,G⟩ ⟨PB,pd,SB,sd⟩):=zq fun W hW=>⟨by show SlO stC 2 W PB LP.length pd LP;rw[hpl_];exact(HPO.out.under hW).sl,by show SlO scC17 2 W SB SL.length sd SL;rw[hsl_];exact(HSO.out.under hW).sl,by show LP.length<=pd;rw[hpl_];exact HPO.out.cap,by show SL.length<=sd;rw[hsl_];exact HSO.out.cap,HTOP.out⟩
 have HMX:=zq (HMY.out w7 (HUP.out _ HB7.out) ⟨ref,rev,LP,SL,G⟩ ⟨PB,pd,SB,sd⟩ (HMR.out w7 (Below.refl _ _)) (by have:=HLL.out;show LP.length<=100;omega) (by have:=HSM.out;show SL.length<=100;omega));unfold maC at HMX;dsimp only at HMX;rw[hpl_,hsl_]at HMX;obtain⟨my,hmy⟩: ∃q,mayM t ⟨ref,rev,LP,SL,G⟩=q:=⟨_,rfl⟩
 rw[hmy]at HMX HR;have HPL:=zq hpl_;have HSL:=zq hsl_;clear hmy hpl_ hsl_;go_upto_region 13 with fail;clear q0;go_wp2_with (first|(with_reducible refine ldZ 60 (H0.out w7 HB7.out) ?_)|(with_reducible refine ldZ 61 HMb.out ?_));refine HMX.out.mono ?_;rintro e_ w8 ⟨rfl,hb8⟩;have HB8:=tB HB7 hb8;have HPO8:=zq (HPO.out.under hb8);have HSO8:=zq (HSO.out.under hb8);have HM8:=uH HMb hb8;clear hb8 HMX HB7 HPO HSO HMb HMR
 cases my with
 |false=>
  obtain⟨rfl,rfl⟩:M=noMa/\E=7:=by have h_:=HR.out;rw[if_neg (by decide)]at h_;injection h_ with h1_ h2_;exact⟨h1_.symm,h2_.symm⟩
  have HZ:=zq (H1.out w8 HB8.out);have HRR:=zq (qaa HZ.out #[.int .i64 0,.bool false,.slice none 0 0,.slice none 0 0,.int .i64 0]);have HBF:=zq (qab (g:=w.heap.size+1) (HBWA.out.trans (HB8.out.mono HBWA.out.size)) (by omega) #[.int .i64 0,.bool false,.slice none 0 0,.slice none 0 0,.int .i64 0]);go_wp2_with (with_reducible refine stZ #[.int .i64 0,.bool false,.slice none 0 0,.slice none 0 0,.int .i64 0] HZ.out ?_);refine rtZ HRR.out ?_;exact⟨⟨none,0,none,0⟩,rfl,⟨SlO.nil _ _ _,SlO.nil _ _ _,Nat.le_refl _,Nat.le_refl _,fun s hs=>by cases hs⟩,HBF.out⟩
 |true=>
  obtain⟨rfl,rfl⟩:M=⟨ref,rev,LP,SL,G⟩/\E=0:=by have h_:=HR.out;rw[if_pos rfl]at h_;injection h_ with h1_ h2_;exact⟨h1_.symm,h2_.symm⟩
  have HZ:=zq (H1.out w8 HB8.out);have HRR:=zq (qaa HZ.out #[.int .i64 ref,.bool rev,.slice PB pm pd,.slice SB sm sd,.int .i64 G]);have HBF:=zq (qab (g:=w.heap.size+1) (HBWA.out.trans (HB8.out.mono HBWA.out.size)) (by omega) #[.int .i64 ref,.bool rev,.slice PB pm pd,.slice SB sm sd,.int .i64 G]);have HPF:=zq (HPO8.out.rowlow17 hg1 #[.int .i64 ref,.bool rev,.slice PB pm pd,.slice SB sm sd,.int .i64 G]);have HSF:=zq (HSO8.out.rowlow17 hg1 #[.int .i64 ref,.bool rev,.slice PB pm pd,.slice SB sm sd,.int .i64 G]);go_wp2_with (first|(with_reducible refine ldZ 65 HM8.out ?_)|(with_reducible refine stZ #[.int .i64 ref,.bool rev,.slice PB pm pd,.slice SB sm sd,.int .i64 G] HZ.out ?_));refine rtZ HRR.out ?_;refine⟨⟨PB,pd,SB,sd⟩,by unfold maC;dsimp only;rw[HPL.out,HSL.out];rfl,⟨?_,?_,?_,?_,HTOP.out⟩,HBF.out⟩
  ·show SlO stC 2 _ PB LP.length pd LP;rw[HPL.out];exact HPF.out.sl
  ·show SlO scC17 2 _ SB SL.length sd SL;rw[HSL.out];exact HSF.out.sl
  ·show LP.length<=pd;rw[HPL.out];exact HPF.out.cap
  ·show SL.length<=sd;rw[HSL.out];exact HSF.out.cap
end
section
open Go.RowKit
open Go.Great
def ma17:Ma3:=⟨7,false,[⟨0,false⟩,⟨1,false⟩],[⟨290,30⟩],0⟩
theorem a17_1:qdQ lineT [⟨1,5,1⟩,⟨2,5,2⟩] 5 7 false 40=(ma17,0):=by kernel_rfl
theorem a17_2:(qb0 lineT ma17).2=0:=by kernel_rfl
theorem a17_3:(qb0 lineT ma17).1.length=2:=by kernel_rfl
theorem a17_4:readE lineT qaV 7 false (qb0 lineT ma17).1=(ma17,0):=by kernel_rfl
theorem a17_5:mayM lineT ma17=true:=by kernel_rfl
theorem a17_6:reachM ma17 29=290:=by kernel_rfl
theorem a17_7:reachM ma17 30=0:=by kernel_rfl
theorem a17_8:(qb0 lineT ma17).1.all (fun p=>decide (p.2.length<=3000))=true:=by kernel_rfl
theorem awake17_any (w:World)(hwd:Wd w):Calls Tryz.prog 9 #[] w fun e w'=>e= .returned (.bool true)/\Below w.heap.size w w':=by
 have HWD:=zq (fun W (hW:Below w.heap.size w W)=>hwd.under hW);clear hwd;go_enter Tryz.func9,Tryz.ntmps9;go_wp2_with fail;refine(line_any w).mono ?_;rintro e_ v1 ⟨a1,rfl,ht1,hcj1,hb1⟩;have HT:=zq ht1;have HCJ:=zq hcj1;have HB:=zq hb1;clear ht1 hcj1 hb1;have hm:Has (v1.alloc (.cells #[.slice none 0 0,.slice none 0 0,.slice none 0 0,.slice none 0 0] 27)) v1.heap.size 27 #[.slice none 0 0,.slice none 0 0,.slice none 0 0,.slice none 0 0]:=Has.made _ _ _;have HMM:=zq hm;obtain⟨u1,hu1⟩: ∃u_,(v1.alloc (.cells #[.slice none 0 0,.slice none 0 0,.slice none 0 0,.slice none 0 0] 27)).setRow v1.heap.size (tpC lineT a1)=u_:=⟨_,rfl⟩
 have hbu1:Below v1.heap.size v1 u1:=by rw[<-hu1];exact qab (g:=v1.heap.size) (bA) (Nat.le_refl _) _
 have H1:=zq (show Has u1 v1.heap.size 27 (tpC lineT a1)from by rw[<-hu1];exact qaa hm _);have HUU:=zq hu1;clear hm hu1;go_upto_region 2 with(with_reducible refine stZ (tpC lineT a1) HMM.out ?_)
 rw[HUU.out];clear HUU HMM;obtain⟨g1,hg1⟩: ∃g_,v1.heap.size=g_:=⟨_,rfl⟩
 rw[hg1]at H1;simp only[hg1];clear hg1;have HB:=tB HB hbu1;have HT:=zq (HT.out.under hbu1);clear hbu1;go_upto_region 3 with fail;obtain⟨u2,hu2⟩: ∃u_,u1.alloc (.cells #[.int .i64 1,.int .i64 5,.int .i64 1,.int .i64 2,.int .i64 5,.int .i64 2] 73)=u_:=⟨_,rfl⟩
 rw[hu2];have hbu2:Below u1.heap.size u1 u2:=by rw[<-hu2];exact bA
 have H2:=zq (show Has u2 u1.heap.size 73 #[.int .i64 1,.int .i64 5,.int .i64 1,.int .i64 2,.int .i64 5,.int .i64 2]from by rw[<-hu2];exact Has.made _ _ _);obtain⟨g2,hg2⟩: ∃g_,u1.heap.size=g_:=⟨_,rfl⟩
 rw[hg2]at H2;simp only[hg2];clear hu2 hg2;have HB:=tB HB hbu2;have H1:=uH H1 hbu2;have HT:=zq (HT.out.under hbu2);clear hbu2;have HL:=zq (show SlO lcC 3 u2 (some ⟨g2,0,none⟩) 2 2 [⟨1,5,1⟩,⟨2,5,2⟩]from⟨rfl,qa7 H2.out rfl⟩);go_wp2_with (with_reducible refine ldZ 15 H1.out ?_);refine(opn_build lineT a1 [⟨1,5,1⟩,⟨2,5,2⟩] 5 7 false 40 (some ⟨g2,0,none⟩) 2 2 u2 HT.out qdu HCJ.out HL.out (by omega) (by omega)).mono ?_;rw[a17_1];rintro e_ v3 ⟨b3,rfl,hm3,hb3⟩;have HM3:=zq hm3;clear hm3 HL H2;dsimp only;have HB:=tB HB hb3;have H1:=uH H1 hb3;have HT:=zq (HT.out.under hb3);clear hb3;have hm:Has (v3.alloc (.cells #[.int .i64 0,.bool false,.slice none 0 0,.slice none 0 0,.int .i64 0] 38)) v3.heap.size 38 #[.int .i64 0,.bool false,.slice none 0 0,.slice none 0 0,.int .i64 0]:=Has.made _ _ _;have HMM:=zq hm;obtain⟨u3,hu3⟩: ∃u_,(v3.alloc (.cells #[.int .i64 0,.bool false,.slice none 0 0,.slice none 0 0,.int .i64 0] 38)).setRow v3.heap.size (maC ma17 b3)=u_:=⟨_,rfl⟩
 have hbu3:Below v3.heap.size v3 u3:=by rw[<-hu3];exact qab (g:=v3.heap.size) (bA) (Nat.le_refl _) _
 have H3:=zq (show Has u3 v3.heap.size 38 (maC ma17 b3)from by rw[<-hu3];exact qaa hm _);have HUU:=zq hu3;clear hm hu3;go_upto_region 4 with(with_reducible refine stZ (maC ma17 b3) HMM.out ?_)
 rw[HUU.out];clear HUU HMM;obtain⟨g3,hg3⟩: ∃g_,v3.heap.size=g_:=⟨_,rfl⟩
 rw[hg3]at H3;simp only[hg3];clear hg3;have HB:=tB HB hbu3;have H1:=uH H1 hbu3;have HT:=zq (HT.out.under hbu3);have HM3:=zq (HM3.out.under hbu3);clear hbu3;go_wp2_with (first|(with_reducible refine ldZ 21 H1.out ?_)|(with_reducible refine ldZ 22 H3.out ?_));refine(opn_packets lineT a1 ma17 b3 u3 HT.out qdu HCJ.out HM3.out (by decide) (by decide)).mono ?_;rw[a17_2];rintro e_ v4 ⟨B,k,c,L,rfl,hs4,hp4,hb4⟩;have HS4:=zq hs4;have HP4:=zq hp4;clear hs4 hp4;have HB:=tB HB hb4;have H1:=uH H1 hb4;have H3:=uH H3 hb4;have HT:=zq (HT.out.under hb4);have HM3:=zq (HM3.out.under hb4);clear hb4;obtain rfl:k=2:=by rw[<-HS4.out.len];have h_:=congrArg List.length HP4.out;rw[a17_3]at h_;simpa[qba]using h_
 have HV4:=zq (show∀p∈L,p.n<=3000 from fun p hp=>by have h_:=List.all_eq_true.1 a17_8 (p.id,p.V) (by rw[<-HP4.out];exact List.mem_map.2 ⟨p,hp,rfl⟩);rw[<-(HS4.out.each p hp).len];simpa using h_);go_upto_region 5 with fail;go_wp2_with (with_reducible refine ldZ 27 H1.out ?_);refine(opn_read lineT a1 7 false L B 2 c v4 HT.out qdu HCJ.out HS4.out (by omega) HV4.out (HWD.out v4 HB.out)).mono ?_;rw[HP4.out,a17_4];rintro e_ v5 ⟨b5,rfl,hm5,hb5⟩;have HM5:=zq hm5;clear hm5 HS4 HP4 HV4;dsimp only;have HB:=tB HB hb5;have H1:=uH H1 hb5;have H3:=uH H3 hb5;have HT:=zq (HT.out.under hb5);have HM3:=zq (HM3.out.under hb5);clear hb5;have hm:Has (v5.alloc (.cells #[.int .i64 0,.bool false,.slice none 0 0,.slice none 0 0,.int .i64 0] 38)) v5.heap.size 38 #[.int .i64 0,.bool false,.slice none 0 0,.slice none 0 0,.int .i64 0]:=Has.made _ _ _;have HMM:=zq hm;obtain⟨u5,hu5⟩: ∃u_,(v5.alloc (.cells #[.int .i64 0,.bool false,.slice none 0 0,.slice none 0 0,.int .i64 0] 38)).setRow v5.heap.size (maC ma17 b5)=u_:=⟨_,rfl⟩
 have hbu5:Below v5.heap.size v5 u5:=by rw[<-hu5];exact qab (g:=v5.heap.size) (bA) (Nat.le_refl _) _
 have H5:=zq (show Has u5 v5.heap.size 38 (maC ma17 b5)from by rw[<-hu5];exact qaa hm _);have HUU:=zq hu5;clear hm hu5;go_upto_region 6 with(with_reducible refine stZ (maC ma17 b5) HMM.out ?_)
 rw[HUU.out];clear HUU HMM;obtain⟨g5,hg5⟩: ∃g_,v5.heap.size=g_:=⟨_,rfl⟩
 rw[hg5]at H5;simp only[hg5];clear hg5;have HB:=tB HB hbu5;have H1:=uH H1 hbu5;have H3:=uH H3 hbu5;have HT:=zq (HT.out.under hbu5);have HM3:=zq (HM3.out.under hbu5);have HM5:=zq (HM5.out.under hbu5);clear hbu5;have m3:u5.cell? ⟨g3,3,none⟩=some (.slice b3.aq 1 b3.cs):=H3.out.cell 3;go_upto_region 8 with fail;clear m3;go_wp2_with (first|(with_reducible refine ldZ 53 H3.out ?_)|(with_reducible refine ldZ 54 H5.out ?_));refine(rsame17 ma17 ma17 b3 b5 u5 HM3.out HM5.out (by decide) (by decide)).mono ?_;rw[(sameM17_iff ma17 ma17).2 rfl];rintro e_ v6 ⟨rfl,hb6⟩;have HB:=tB HB hb6;have H1:=uH H1 hb6;have H3:=uH H3 hb6;have HT:=zq (HT.out.under hb6);have HM3:=zq (HM3.out.under hb6);clear hb6;obtain⟨bs,os,hbs,d0,d1⟩:=HM3.out.sects.sect (j:=0) (x:=⟨290,30⟩) rfl;rw[Nat.zero_mul,Nat.add_zero]at d0 d1;have m3:v6.cell? ⟨g3,3,none⟩=some (.slice (some ⟨bs,os,none⟩) 1 b3.cs):=by have h_:=H3.out.cell 3;rw[<-hbs];exact h_
 have q1:=eql_sc17 ⟨290,30⟩ ⟨290,30⟩;rw[(qcx _ _).2 rfl]at q1;unfold scA17 at q1;dsimp only at q1 d0 d1;clear hbs;go_upto_region 9 with fail;go_wp2_with (first|((with_reducible refine qbF 66 ?_);refine qaC (o:=⟨some 66,_,_,_,_,_⟩) 27 _ rfl (by kernel_rfl) (g1) rfl 27 (tpC lineT a1) (0,0) _ (H1.out).raw11 Tryz.underlying27 rfl (by kernel_rfl) ?_)|((with_reducible refine qbF 67 ?_);refine qaC (o:=⟨some 67,_,_,_,_,_⟩) 38 _ rfl (by kernel_rfl) (g3) rfl 38 (maC ma17 b3) (0,0) _ (H3.out).raw11 Tryz.underlying38 rfl (by kernel_rfl) ?_));refine(opn_may lineT a1 ma17 b3 v6 HT.out qdu HCJ.out HM3.out (by decide) (by decide)).mono ?_;rw[a17_5];rintro e_ v7 ⟨rfl,hb7⟩;clear d0 d1 m3 q1;have HB:=tB HB hb7;have H1:=uH H1 hb7;have H3:=uH H3 hb7;have HT:=zq (HT.out.under hb7);have HM3:=zq (HM3.out.under hb7);clear hb7;go_wp2_with ((with_reducible refine qbF 71 ?_);refine qaC (o:=⟨some 71,_,_,_,_,_⟩) 38 _ rfl (by kernel_rfl) (g3) rfl 38 (maC ma17 b3) (0,0) _ (H3.out).raw11 Tryz.underlying38 rfl (by kernel_rfl) ?_);refine(opn_reach ma17 b3 29 v7 HM3.out (by decide) (by decide)).mono ?_;rw[a17_6];rintro e_ v8 ⟨rfl,hb8⟩;have HB:=tB HB hb8;have H1:=uH H1 hb8;have H3:=uH H3 hb8;have HT:=zq (HT.out.under hb8);have HM3:=zq (HM3.out.under hb8);clear hb8;go_wp2_with ((with_reducible refine qbF 76 ?_);refine qaC (o:=⟨some 76,_,_,_,_,_⟩) 38 _ rfl (by kernel_rfl) (g3) rfl 38 (maC ma17 b3) (0,0) _ (H3.out).raw11 Tryz.underlying38 rfl (by kernel_rfl) ?_);refine(opn_reach ma17 b3 30 v8 HM3.out (by decide) (by decide)).mono ?_;rw[a17_7];rintro e_ v9 ⟨rfl,hb9⟩;have HB:=tB HB hb9;clear hb9;go_wp2;go_ret
 exact⟨by first|rfl|simp,HB.out⟩
end
section
open Go.RowKit
open Go.Great
theorem gone_few17 (t:Tp3)(k:Nat)(s:St3)(left:Int):(qaW t k s left).length<=k+1:=by
 induction k generalizing s left with
 |zero=>simp[qaW]
 |succ k ih=>
  unfold qaW;split
  ·split
   ·rename_i x _
    have:=ih x (left-lenAt t x);simp only[List.length_cons];omega
   ·simp
  ·simp
theorem stretch_few17 (t:Tp3)(p:Ps3)(n:Int):(qaM t p n).1.length<=200:=by
 unfold qaM;split
 ·have h1:=gone_few17 t 59 (stepP p) (n-qaB t p)
  have h2:=over_few16 t (goneL t p n) (intoP t p) (intoP t p+n);unfold goneL at h2⊢;omega
 ·simp
theorem planStretches_walk (t:Tp3)(a:TpA)(p:Ps3)(n:Int)(w:World)(ht:TopR w t a)(hcj:t.joints.length<=a.cj)(_:(Lit.int .i64 n).wf=true)(hwd:Wd w):
  Calls Tryz.prog 5 #[.agg (tpC t a),.agg (psA p),.int .i64 n] w fun e w'=>e= .returned (.bool true)/\Below w.heap.size w w':=by
 obtain⟨wa,hwa,hbwa,HWA,HBWA,h0,h1⟩:=bx2Z w 27 (tpC t a) 51 (psA p);have HT:=zq (ht.under hbwa);have HCJ:=zq hcj;have HWD:=zq (fun W (hW:Below w.heap.size w W)=>hwd.under hW);clear hwd;have H0:=zq h0;have H1:=zq h1;have HB:=HBWA;obtain⟨lt,hlt⟩: ∃q,qaH t=q:=⟨_,rfl⟩
 have HLT:=zq hlt;clear hwa hbwa h0 h1 ht hcj hlt HBWA;go_enter Tryz.func5,Tryz.ntmps5;go_upto_region 1 with fail;rw[HWA.out];clear HWA;go_wp2_with fail;refine(awake17_any wa (HWD.out wa HB.out)).mono ?_;rintro e_ v1 ⟨rfl,hb⟩;have HB:=tB HB hb;have H0:=uH H0 hb;have H1:=uH H1 hb;have HT:=zq (HT.out.under hb);clear hb;go_wp2_with (with_reducible refine ldZ 15 H0.out ?_);refine(rlight_any13 t a v1 HT.out).mono ?_;rw[HLT.out];rintro e_ v2 ⟨rfl,hb⟩;have HB:=tB HB hb;have H0:=uH H0 hb;have H1:=uH H1 hb;have HT:=zq (HT.out.under hb);clear hb
 cases lt with
 |false=>
  go_wp2;go_ret
  exact⟨by first|rfl|simp,HB.out⟩
 |true=>
 have HTO:=zq (fun h=>qf1 (t:=t) (p:=p) (n:=n) h);have HXF:=zq (stretch_few17 t p n);obtain⟨X,ex,hX⟩: ∃X e,qaM t p n=(X,e):=⟨_,_,rfl⟩
 rw[hX]at HTO HXF;dsimp only at HTO HXF;have HX:=zq hX;clear hX;go_upto_region 5 with fail;go_wp2_with (first|(with_reducible refine ldZ 25 H0.out ?_)|(with_reducible refine ldZ 26 H1.out ?_));refine(opn_stretch t a p n v2 HT.out HLT.out HCJ.out).mono ?_;rw[HX.out];dsimp only;rintro e_ v3 ⟨X3,x3,rfl,hs,hc,hb⟩;have HS3:=zq hs;have HC3:=zq hc;clear hs hc;have HB:=tB HB hb;have H0:=uH H0 hb;have H1:=uH H1 hb;have HT:=zq (HT.out.under hb);clear hb;go_wp2_with (first|(with_reducible refine ldZ 32 H0.out ?_)|(with_reducible refine ldZ 33 H1.out ?_));refine(rstretch17 t a p n v3 HT.out HLT.out HCJ.out).mono ?_;rw[HX.out];dsimp only;rintro e_ v4 ⟨X4,x4,rfl,hs,hc,hb⟩;have HS4:=zq hs;have HC4:=zq hc;clear hs hc;have HB:=tB HB hb;have H0:=uH H0 hb;have H1:=uH H1 hb;have HT:=zq (HT.out.under hb);have HS3:=zq (HS3.out.under hb);clear hb;go_wp2_with fail;refine(rssame_any X X X3 X4 _ x3 _ x4 v4 HS3.out HS4.out (by have:=HXF.out;omega) (by have:=HXF.out;omega)).mono ?_;rw[(qd7 X X).2 rfl];rintro e_ v5 ⟨rfl,hb⟩;have HB:=tB HB hb;have H0:=uH H0 hb;have H1:=uH H1 hb;have HT:=zq (HT.out.under hb);have HS3:=zq (HS3.out.under hb);clear hb;have q0:(ex==ex)=true:=by simp
 by_cases z0:ex=0;rotate_left
 ·have q1:(ex !=0)=true:=by simp[z0]
  clear z0;go_wp2;go_ret
  exact⟨by first|rfl|simp,HB.out⟩
 have q1:(ex !=0)=false:=by simp[z0]
 obtain⟨T,hT⟩:=geZ (qcu X);have HTN:=zq (show T<=n from by rw[<-hT];exact HTO.out z0);have HTT:=zq hT;clear hT z0;go_upto_region 8 with fail;go_wp2_with fail;refine(osn_total X X3 _ x3 v5 HS3.out HC3.out (by have:=HXF.out;omega)).mono ?_;rw[HTT.out];rintro e_ v6 ⟨rfl,hb⟩;have HB:=tB HB hb;clear hb;have q2:decide (T<=n)=true:=decide_eq_true HTN.out;go_wp2;go_ret
 exact⟨by first|rfl|simp,HB.out⟩
end
end Go.Proofs.YtahadmeilajdgaaGreatDoor
