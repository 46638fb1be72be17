/-
  Our own text, joined.
-/
import Derived.Test.YtahadmeilajdgaaGreatDoorMcaj
import Derived.Test.YtahadmeilajdgaaGreatDoorMcaa
import Derived.Deep.RegionHeld3
import Derived.StillTailTactics
import Derived.Recover
import Derived.BigQuiet
import Derived.IntWalk
import Derived.Test.YtahadmeilajdgaaGreatDoorMcae
import Derived.Test.YtahadmeilajdgaaGreatDoorMcab
namespace Go.Proofs.YtahadmeilajdgaaGreatDoor
set_option maxRecDepth 100000
set_option maxHeartbeats 80000000
section
open Go.RowKit
mutual
def szPt:Pt->Nat
 | .mk _ k b=>if k=3 then 1 else 1+szPts b
def szPts:List Pt->Nat
 |[]=>0
 |x::l=>szPt x+szPts l
end
theorem szPt_pos (x:Pt):1<=szPt x:=by cases x;rw[szPt];split<;>omega
theorem len_sz: ∀l:List Pt,l.length<=szPts l
 |[]=>Nat.zero_le _
 |x::l=>by rw[List.length_cons,szPts];have:=len_sz l;have:=szPt_pos x;omega
theorem szPts_append (a b:List Pt):szPts (a++b)=szPts a+szPts b:=by
 induction a with
 |nil=>simp[szPts]
 |cons y d ih=>simp only[List.cons_append,szPts,ih];omega
mutual
theorem szPt_le: ∀x:Pt,szPt x<=szL (ndPt x)
 | .mk v k b=>by
  rw[szPt,ndPt];split
  ·simp[szL,szN]
  ·have:=szPts_le b
   simp only[szL,szN];omega
theorem szPts_le: ∀l:List Pt,szPts l<=szL (ndPts l)
 |[]=>by simp[szPts]
 |x::l=>by
  rw[szPts,ndPts,szL_append];have:=szPt_le x;have:=szPts_le l;omega
end
mutual
def no5N:Nd->Bool
 | .v n=>decide (n≠5)
 | .g _ b=>no5L b
def no5L:List Nd->Bool
 |[]=>true
 |x::l=>no5N x &&no5L l
end
theorem good_append (a b:List Nd):goodL (a++b)=(goodL a &&goodL b):=by
 induction a with
 |nil=>simp[goodL]
 |cons x l ih=>simp[goodL,ih,Bool.and_assoc]
theorem no5_append (a b:List Nd):no5L (a++b)=(no5L a &&no5L b):=by
 induction a with
 |nil=>simp[no5L]
 |cons x l ih=>simp[no5L,ih,Bool.and_assoc]
theorem c7_append (a b:List Nd):c7 (a++b)=c7 a+c7 b:=by
 induction a with
 |nil=>simp[c7]
 |cons x l ih=>cases x<;>simp[c7,ih];omega
theorem nd_cons (v k:Nat)(b l:List Pt):ndPts (.mk v k b::l)=(if k=3 then[.v v]else[.v v,.g k (ndPts b)])++ndPts l:=by rw[ndPts,ndPt]
theorem c7_cons (v k:Nat)(b l:List Pt):c7 (ndPts (.mk v k b::l))=(if v=7 then 1 else 0)+c7 (ndPts l):=by
 rw[nd_cons,c7_append];split<;>simp[c7]
theorem good_cons {v k:Nat}{b l:List Pt}(h:goodL (ndPts (.mk v k b::l))=true):v<96/\k<=3/\(k≠3->goodL (ndPts b)=true/\noL (ndPts b)=true)/\goodL (ndPts l)=true:=by
 rw[nd_cons,good_append,Bool.and_eq_true]at h;obtain⟨h1,h2⟩:=h;by_cases hk:k=3
 ·rw[if_pos hk]at h1
  simp only[goodL,goodN,Bool.and_true,decide_eq_true_eq]at h1;exact⟨h1,by omega,fun h=>absurd hk h,h2⟩
 ·rw[if_neg hk]at h1
  simp only[goodL,goodN,Bool.and_true,Bool.and_eq_true,decide_eq_true_eq]at h1;exact⟨h1.1,by omega,fun _=>h1.2.2,h2⟩
theorem no5_cons {v k:Nat}{b l:List Pt}(h:no5L (ndPts (.mk v k b::l))=true):v≠5/\(k≠3->no5L (ndPts b)=true)/\no5L (ndPts l)=true:=by
 rw[nd_cons,no5_append,Bool.and_eq_true]at h;obtain⟨h1,h2⟩:=h;by_cases hk:k=3
 ·rw[if_pos hk]at h1
  simp only[no5L,no5N,Bool.and_true,decide_eq_true_eq]at h1;exact⟨h1,fun h=>absurd hk h,h2⟩
 ·rw[if_neg hk]at h1
  simp only[no5L,no5N,Bool.and_true,Bool.and_eq_true,decide_eq_true_eq]at h1;exact⟨h1.1,fun _=>h1.2,h2⟩
theorem nd_last (l:List Pt)(a b:Int)(s:WS):runL (ndPts l) a s=runL (ndPts l) b s:=by
 cases l with
 |nil=>simp[ndPts,runL]
 |cons x l=>
  cases x with
  |mk v k c=>
   rw[nd_cons];split<;>(simp only[List.cons_append,List.nil_append,runL,runN];try rfl)
theorem run_cons (v k:Nat)(b l:List Pt)(s:WS)(he:s.e=0):runL (ndPts (.mk v k b::l)) 0 s=if(oneS v s).2.e≠0 then(oneS v s).2 else runL (ndPts l) 0 (repS (fun s=>runL (ndPts b) 0 s) (timesOf k (oneS v s).1) (oneS v s).2):=by
 rw[nd_cons];by_cases h:(oneS v s).2.e≠0
 ·rw[if_pos h]
  split
  ·rw[List.cons_append,runL,if_neg (by omega),runN,runL_err _ _ h]
  ·rw[List.cons_append,runL,if_neg (by omega),runN,runL_err _ _ h]
 ·rw[if_neg h]
  by_cases hk:k=3
  ·rw[if_pos hk,List.cons_append,runL,if_neg (by omega),runN,List.nil_append,show timesOf k (oneS v s).1=0 by rw[hk];rfl,repS]
   exact nd_last l _ _ _
  ·rw[if_neg hk,List.cons_append,runL,if_neg (by omega),runN,List.cons_append,runL,if_neg h,runN,List.nil_append,show timesOf k (oneS v s).1=many k (oneS v s).1 by unfold timesOf;rw[if_neg hk]]
   exact nd_last l _ _ _
theorem one_fetch_bad (v:Int)(s:WS)(he:s.e=0)(h:(fetch v s).2.e≠0):(oneS v s).2=(fetch v s).2:=by rw[oneS,if_neg (by omega),if_pos h]
theorem one_may_bad (v:Int)(s:WS)(he:s.e=0)(h:(fetch v s).2.e=0)(hm:mayOf v (fetch v s).1=false):(oneS v s).2= {(fetch v s).2 with e:=20} :=by rw[oneS,if_neg (by omega),if_neg (by omega),if_pos hm]
theorem one_fine (v:Int)(s:WS)(he:s.e=0)(h:(fetch v s).2.e=0)(hm:mayOf v (fetch v s).1=true):oneS v s=((fetch v s).1,keep v (fetch v s).1 (fetch v s).2):=by rw[oneS,if_neg (by omega),if_neg (by omega),if_neg (by rw[hm];decide)]
theorem keep_e (v n:Int)(s:WS):(keep v n s).e=s.e:=by unfold keep;split;rfl;split<;>rfl
def ThruPost (St:World->WS->Prop)(base lo hi:Nat)(w:World)(R:WS)(e:Ending)(w':World):Prop:=
 ((R.e=0/\e= .returned (.tuple #[])/\St w' R)\/(R.e≠0/\e=panE R.e))/\FrZ base lo hi w w'
theorem ThruPost.fine {St:World->WS->Prop}{base lo hi:Nat}{w:World}{R:WS}{e:Ending}{w':World}(h:ThruPost St base lo hi w R e w')(h0:R.e=0):e= .returned (.tuple #[])/\St w' R/\FrZ base lo hi w w':=by
 rcases h.1 with⟨_,h1,h2⟩|⟨h1,_⟩
 ·exact⟨h1,h2,h.2⟩
 ·exact absurd h0 h1
theorem ThruPost.bad {St:World->WS->Prop}{base lo hi:Nat}{w:World}{R:WS}{e:Ending}{w':World}(h:ThruPost St base lo hi w R e w')(h0:R.e≠0):e=panE R.e/\FrZ base lo hi w w':=by
 rcases h.1 with⟨h1,_⟩|⟨_,h1⟩
 ·exact absurd h1 h0
 ·exact⟨h1,h.2⟩
end
section
open Go.RowKit
theorem through_any {St:World->WS->Prop}{F g base lo hi:Nat}(NC:NumC St F g base lo hi): ∀(N:Nat),N<=1000-> ∀l:List Pt,szPts l<N->goodL (ndPts l)=true->no5L (ndPts l)=true-> ∀(s:WS) (w:World) (A:Option Addr) (n c k:Nat),St w s->s.e=0->Inv s (k+c7 (ndPts l))->Wd w->Parts lo hi w A n c l->
  Calls Tryz.prog 214 #[.agg #[.func (.func F) #[.pointer (some ⟨g,0,none⟩)] #[]],.slice A n c] w (ThruPost St base lo hi w (runL (ndPts l) 0 s)):=by
 intro N
 induction N with
 |zero=>intro _ l h;exact absurd h (by omega)
 |succ N ih=>
  intro hN l hsz hgood hno5 s w A n c k hst he hinv hwd hpt;have IH:=zq (ih (by omega));clear ih;obtain⟨R,hR⟩:=geZ (runL (ndPts l) 0 s);rw[hR];have hlen:=hpt.len;have hn1:n<=1000:=by have:=len_sz l;omega
  have hent:=NC.ent;obtain⟨low1,low2⟩:=NC.low w s hst;have hb0:Below w.heap.size w (w.alloc (.cells #[.func (.func F) #[.pointer (some ⟨g,0,none⟩)] #[]] 229)):=bA;have HF0:=zq (frz_call (lo:=lo) hb0 low1 low2);have HS0:=zq (NC.under _ _ _ hst hb0);have HW0:Hid (Has (w.alloc (.cells #[.func (.func F) #[.pointer (some ⟨g,0,none⟩)] #[]] 229)) w.heap.size 229 #[.func (.func F) #[.pointer (some ⟨g,0,none⟩)] #[]]):=Has.made _ _ _;have HNC:=zq NC;have HP0:=zq hpt;have HI0:=zq hinv;have HG0:=zq hgood;have H50:=zq hno5;have HR:=zq hR;have HSZ:=zq hsz;have HLEN:=zq hlen;have HWD:=zq hwd;have HE0:=zq he;clear hst hinv hgood hno5 hR hsz hlen hwd hpt NC hb0 low1 low2 he;go_enter Tryz.func214,Tryz.ntmps214;go_wp2;go_loopg [9] n (fun kk iv wl=> ∃(done rest:List Pt) (s':WS),l=done++rest/\rest.length<=kk/\iv= .int .i64 done.length/\St wl s'/\s'.e=0/\Has wl w.heap.size 229 #[.func (.func F) #[.pointer (some ⟨g,0,none⟩)] #[]]/\FrZ base lo hi w wl/\Inv s' (k+c7 (ndPts rest))/\goodL (ndPts rest)=true/\no5L (ndPts rest)=true/\runL (ndPts rest) 0 s'=R)
  case atStart=>exact⟨[],l,s,rfl,by rw[HLEN.out];exact Nat.le_refl _,rfl,HS0.out,HE0.out,HW0.out,HF0.out,HI0.out,HG0.out,H50.out,HR.out⟩
  obtain⟨done,rest,s',hl,hkk,rfl,hst,he,hbx,hfr,hinv,hgood,hno5,hrun⟩:=hrel;obtain⟨w1,hw1⟩: ∃w1,w1=wr:=⟨_,rfl⟩
  subst hw1;obtain⟨g1,hg1⟩: ∃g1,g1=gk:=⟨_,rfl⟩
  subst hg1;obtain⟨i,hi⟩:=geZ (done.length);have hnl:n=i+rest.length:=by rw[<-HLEN.out,hl,List.length_append,hi]
  rw[hi];have HL:=zq hl;have HFR:=zq hfr;have HINV:=zq hinv;have HGD:=zq hgood;have H5:=zq hno5;have HRUN:=zq hrun;have HST:=zq hst;have HE:=zq he;have HI:=zq hi;have HBX:=zq hbx;have HKK:=zq hkk;have HNL:=zq hnl;clear hl hfr hinv hgood hno5 hrun hst he hi hbx HS0 HW0 HF0 HI0 HG0 H50 HR HE0 hkk
  cases rest with
  |nil=>
   have hin: ¬(i:Int)<n:=by have:=HNL.out;simp at this;omega
   have hR2:R=s':=by have:=HRUN.out;simp only[ndPts,runL]at this;exact this.symm
   clear hnl;subst hR2;go_wp2;refine bodyPost_end (results_none rfl _ _ _) rfl ?_;exact⟨.inl ⟨HE.out,rfl,HST.out⟩,HFR.out⟩
  |cons x l2=>
   cases x with
   |mk v kd b=>
    have hin:(i:Int)<n:=by have:=HNL.out;rw[List.length_cons]at this;omega
    have hi0:(0:Int)<=i:=by omega
    have hg1:1<=g1/\l2.length<=g1-1:=by have:=HKK.out;rw[List.length_cons]at this;omega
    obtain⟨hg1,hg2⟩:=hg1;clear hnl;obtain⟨hv,hkd,hgb,hgl⟩:=good_cons HGD.out;obtain⟨hv5,h5b,h5l⟩:=no5_cons H5.out;have hrc:=run_cons v kd b l2 s' HE.out;rw[HRUN.out]at hrc
    -- the part's cells
    have hpt1:=HP0.out.keep HFR.out.z (Nat.le_refl _) (Nat.le_refl _);obtain⟨cs,hz,hat⟩:=hpt1.mem;obtain⟨c1,c2,c3,hcs,hc1,hx⟩:=ptsAt_at done (.mk v kd b) l2 HL.out hat
    rw[PtAt]at hx;obtain⟨Ao,co,Af,nf,cf,fc,rfl,ho,hbl,hnf,hf1,hf2⟩:=hx;have hcell: ∀q u,[Value.int .i64 (v:Int),.bool (decide (kd=0)),.slice Ao (onlyOf kd).length co,.slice Af nf cf][q]?=some u->cs[i*4+q]?=some u:=fun q u hq=>by
     rw[hcs,List.append_assoc,List.getElem?_append_right (by rw[hc1,HI.out];omega),hc1,HI.out,show i*4+q-i*4=q by omega];rw[List.getElem?_append_left (List.getElem?_eq_some_iff.1 hq).1];exact hq
    obtain⟨pb,po,rfl,k0⟩:=hz.sl.at_ (hcell 0 _ rfl);have kq: ∀q u,[Value.int .i64 (v:Int),.bool (decide (kd=0)),.slice Ao (onlyOf kd).length co,.slice Af nf cf][q]?=some u->w1.cell? ⟨pb,po+i*4+q,none⟩=some u:=fun q u hq=>by
     obtain⟨pb',po',e,h⟩:=hz.sl.at_ (hcell q u hq);simp only[Option.some.injEq,Addr.mk.injEq,and_true]at e;obtain⟨rfl,rfl⟩:=e;rw[Nat.add_assoc];exact h
    have k0:=kq 0 _ rfl;have k1:=kq 1 _ rfl;have k2:=kq 2 _ rfl;have k3:=kq 3 _ rfl;rw[Nat.add_zero]at k0;have hbp:Parts lo hi w1 Af nf cf b:=⟨hbl,hnf,fc,hf1,hf2⟩
    have HBP:=zq hbp;have HO:=zq ho;have HRC:=zq hrc;have HGB:=zq hgb;have H5B:=zq h5b;have HGL:=zq hgl;have H5L:=zq h5l;have HWD1:=zq (HWD.out.frz HNC.out.gb HFR.out);obtain⟨lw1,lw2⟩:=HNC.out.low _ _ HST.out
    -- the part's own block
    obtain⟨m,hm⟩:=geZ ((onlyOf kd).length);rw[hm]at k2;obtain⟨z0,hz0⟩:=geZ (decide (kd=0));rw[hz0]at k1;have HM:=zq hm;have HZ0:=zq hz0;have hb2:Below w1.heap.size w1 (w1.alloc (.cells #[.int .i64 (v:Int),.bool z0,.slice Ao m co,.slice Af nf cf] 284)):=bA;have HP2:Hid (Has (w1.alloc (.cells #[.int .i64 (v:Int),.bool z0,.slice Ao m co,.slice Af nf cf] 284)) w1.heap.size 284 #[.int .i64 (v:Int),.bool z0,.slice Ao m co,.slice Af nf cf]):=Has.made _ _ _;have HF2:=zq (frz_call (lo:=lo) hb2 lw1 lw2);have HST2:=zq (HNC.out.under _ _ _ HST.out hb2);have HBX2:=zq (HBX.out.frz (.inl rfl) HF2.out);have HWD2:=zq (HWD1.out.frz HNC.out.gb HF2.out);have x0:(w1.alloc (.cells #[.int .i64 (v:Int),.bool z0,.slice Ao m co,.slice Af nf cf] 284)).cell? ⟨w.heap.size,0,none⟩=some (.func (.func F) #[.pointer (some ⟨g,0,none⟩)] #[]):=by rw[HBX2.out.cell];rfl
    have x00:w1.cell? ⟨w.heap.size,0,none⟩=some (.func (.func F) #[.pointer (some ⟨g,0,none⟩)] #[]):=by rw[HBX.out.cell];rfl
    clear kq hcell hz hat hcs hc1 hf1 hf2 ho hbl hnf hpt1 hrc hgb h5b hgl h5l hbp hm hz0 HST HBX HWD1 HP0 hb2;obtain⟨n1,hn1e⟩:=geZ ((fetch v s').1);by_cases hf:(fetch v s').2.e=0
    ·have HC:=zq (HNC.out.ok v s' _ _ hv hv5 HST2.out HE.out HINV.out HWD2.out hf)
     have HINO:=zq (inv_oneN v hv s' (k+c7 (ndPts l2)) (by have:=HINV.out;rw[c7_cons]at this;exact inv_less this (by omega)));have hbad:=one_may_bad v s' HE.out hf;have hfine:=one_fine v s' HE.out hf;rw[hn1e]at HC hbad hfine;have HBAD:=zq hbad;have HFINE:=zq hfine;have HFE:=zq hf;clear hf hbad hfine hn1e;go_wp2_with fail;refine HC.out.mono ?_;rintro e w3 ⟨rfl,hst3,hf3⟩;have HST3:=zq hst3;have HF3:=zq ((HFR.out.trans HF2.out).trans hf3);have HF13:=zq (HF2.out.trans hf3);have HBX3:=zq (HBX2.out.frz (.inl rfl) hf3);have HP3:=zq (HP2.out.frz (.inr rfl) hf3);have HWD3:=zq (HWD2.out.frz HNC.out.gb hf3);have y0:w3.cell? ⟨w1.heap.size,0,none⟩=some (.int .i64 (v:Int)):=by rw[HP3.out.cell];rfl
     have y1:w3.cell? ⟨w1.heap.size,1,none⟩=some (.bool z0):=by rw[HP3.out.cell];rfl
     have y2:w3.cell? ⟨w1.heap.size,2,none⟩=some (.slice Ao m co):=by rw[HP3.out.cell];rfl
     have y3:w3.cell? ⟨w1.heap.size,3,none⟩=some (.slice Af nf cf):=by rw[HP3.out.cell];rfl
     have HM3:=zq (may_var v n1 w3 HWD3.out);clear hst3 hf3 x0 x00 k0 k1 k2 k3 HC HST2 HBX2 HP2 HWD2 HF2
     cases hmay:mayOf v n1
     ·rw[hmay]at HM3
      have hone:=HBAD.out hmay;have hrc:=HRC.out;rw[hone,if_pos (show(20:Int)≠0 by decide)]at hrc;have HRE:Hid (R.e=20):=zq (by rw[hrc]);clear hone hrc hmay;go_wp2_with fail;refine HM3.out.mono ?_;rintro e w4 ⟨rfl,rfl⟩;go_wp2;exact⟨rfl,.inr ⟨by rw[HRE.out];decide,by rw[HRE.out];rfl⟩,HF3.out⟩
     ·rw[hmay]at HM3
      have hone:=HFINE.out hmay;have hrc:=HRC.out;obtain⟨s2,hs2⟩:=geZ (keep v n1 (fetch v s').2);have hs2e:s2.e=0:=by rw[<-hs2,keep_e];exact HFE.out
      have hino:=HINO.out;rw[hs2]at hone HST3;rw[hone]at hrc hino;rw[if_neg (show¬s2.e≠0 by omega)]at hrc;have hnl:=may_fit v hv n1 hmay;have hn32:=may_small v hv n1 hmay;obtain⟨M,hM⟩:=geZ (timesOf kd n1);have hMb:=times_le kd n1 hkd hn32;rw[hM]at hrc hMb;obtain⟨S3,hS3⟩:=geZ (repS (fun s=>runL (ndPts b) 0 s) M s2);rw[hS3]at hrc;have HO3:=HO.out.keep HF13.out.z (Nat.le_refl _) (Nat.le_refl _);have HT:=times_any v kd Ao co (.slice Af nf cf) n1 w3 hkd (fun _=>hnl.1) HO3.sl;rw[HM.out,HZ0.out,hM]at HT;have HT:=zq HT;have HRC2:=zq hrc;have HINO2:=zq hino;have HS2E:=zq hs2e;have HS3:=zq hS3;have HMM:=zq hM;have BS:=zq (HNC.out.low _ _ HST3.out);clear hone hrc hs2 hs2e hino hnl hn32 hM hS3 HO3 hmay HBAD HFINE HFE HINO HRC HO;go_wp2_with fail;refine HM3.out.mono ?_;rintro e w4 ⟨rfl,rfl⟩;go_wp2_with fail;refine HT.out.mono ?_;rintro e w5 ⟨rfl,hb5⟩;have hf5:=frz_call (lo:=lo) hb5 BS.out.1 BS.out.2;have HST5:=zq (HNC.out.under _ _ _ HST3.out hb5);have HBX5:=zq (HBX3.out.frz (.inl rfl) hf5);have HP5:=zq (HP3.out.frz (.inr rfl) hf5);have HF5:=zq (HF3.out.trans hf5);have HF15:=zq (HF13.out.trans hf5);clear hb5 hf5 HT HM3 y0 y1 y2 y3 HST3 HBX3 HP3 HWD3 HF3 HF13;go_wp2;go_loopg [27] M (fun kq iv wl=> ∃(j:Nat) (s4:WS),j<=M/\M-j<=kq/\iv= .int .i64 j/\St wl s4/\s4.e=0/\Has wl w.heap.size 229 #[.func (.func F) #[.pointer (some ⟨g,0,none⟩)] #[]]/\Has wl w1.heap.size 284 #[.int .i64 (v:Int),.bool z0,.slice Ao m co,.slice Af nf cf]/\FrZ base lo hi w wl/\FrZ base lo hi w1 wl/\Inv s4 (k+c7 (ndPts l2))/\repS (fun s=>runL (ndPts b) 0 s) (M-j) s4=S3)
      case atStart=>exact⟨0,s2,by omega,by omega,rfl,HST5.out,HS2E.out,HBX5.out,HP5.out,HF5.out,HF15.out,HINO2.out,HS3.out⟩
      obtain⟨j,s4,hj,hjk,rfl,hst,he4,hbx,hpp,hfr4,hf14,hinv4,hrep⟩:=hrel;have HWD4:=zq (HWD.out.frz HNC.out.gb hfr4);have y3:wr.cell? ⟨w1.heap.size,3,none⟩=some (.slice Af nf cf):=by rw[hpp.cell];rfl
      have y4:wr.cell? ⟨w.heap.size,0,none⟩=some (.func (.func F) #[.pointer (some ⟨g,0,none⟩)] #[]):=by rw[hbx.cell];rfl
      have HST4:=zq hst;have HBX4:=zq hbx;have HP4:=zq hpp;have HF4:=zq hfr4;have HF14:=zq hf14;have HI4:=zq hinv4;have HREP:=zq hrep;have HE4:=zq he4;clear hst hbx hpp hfr4 hf14 hinv4 hrep he4 HST5 HBX5 HP5 HF5 HF15;by_cases hlt:j<M
      ·have hk3:kd≠3:=fun e=>by
        have:=HMM.out;rw[e]at this;simp[timesOf]at this;omega
       have hszb:szPts b<N:=by
        have:=HSZ.out;have h1:szPts l=szPts done+szPts (.mk v kd b::l2):=by rw[HL.out,szPts_append]
        have h2:szPts (.mk v kd b::l2)=1+szPts b+szPts l2:=by rw[szPts,szPt,if_neg hk3]
        omega
       obtain⟨hg5,hno7⟩:=HGB.out hk3;have hrep:=HREP.out;rw[show M-j=(M-(j+1))+1 by omega,repS,if_neg (by rw[HE4.out];decide)]at hrep;have hcl:=IH.out b hszb hg5 (H5B.out hk3) s4 wr Af nf cf (k+c7 (ndPts l2)) HST4.out HE4.out (by rw[noL_c7 _ hno7];exact HI4.out) HWD4.out (HBP.out.keep HF14.out.z (Nat.le_refl _) (Nat.le_refl _));have hin5:=inv_runL (ndPts b) 0 s4 (k+c7 (ndPts l2)) hg5 (by rw[noL_c7 _ hno7];exact HI4.out);obtain⟨s6,hs6⟩:=geZ (runL (ndPts b) 0 s4);simp only[hs6]at hcl hrep hin5;have HCL:=zq hcl;have HREP2:=zq hrep;have HIN5:=zq hin5;have x0:(0:Int)<=j:=by omega
       have x1:(j:Int)<M:=by omega
       clear hcl hrep hin5 hs6 hno7 hg5 hszb hk3 HREP;by_cases h6:s6.e=0
       ·have HCC:=zq (HCL.out.mono fun e w' h=>h.fine h6)
        have H6:=zq h6;clear h6 HCL;go_wp2_with fail;refine HCC.out.mono ?_;rintro e w6 ⟨rfl,hst6,hf6⟩;have HST6:=zq hst6;have HF6:=zq hf6;clear hst6 hf6 HCC y3 y4;go_wp2;go_roundg (gk-1)
        case measure=>omega
        case rel=>exact⟨j+1,s6,by omega,by omega,by go_num,HST6.out,H6.out,HBX4.out.frz (.inl rfl) HF6.out,HP4.out.frz (.inr rfl) HF6.out,HF4.out.trans HF6.out,HF14.out.trans HF6.out,HIN5.out,HREP2.out⟩
       ·have HCC:=zq (HCL.out.mono fun e w' h=>h.bad h6)
        have hrep:=HREP2.out;rw[repS_err _ _ h6]at hrep;have hrc:=HRC2.out;rw[<-hrep,runL_err _ _ h6]at hrc;have HRE:Hid (R.e=s6.e):=zq (by rw[hrc]);have H6:=zq h6;clear h6 hrep hrc HCL;unfold panE at HCC;go_wp2_with fail;refine HCC.out.mono ?_;rintro e w6 ⟨rfl,hf6⟩;have HF6:=zq hf6;clear hf6 HCC y3 y4;go_wp2;exact⟨rfl,.inr ⟨by rw[HRE.out];exact H6.out,by rw[HRE.out];rfl⟩,HF4.out.trans HF6.out⟩
      ·obtain rfl:j=M:=by omega
       have hrep:=HREP.out;rw[Nat.sub_self,repS]at hrep;have hrc:=HRC2.out;rw[<-hrep]at hrc;have HRC3:=zq hrc.symm;clear hrep hrc y3 y4;go_wp2;go_roundg (g1-1)
       case measure=>omega
       case rel=>exact⟨done++[.mk v kd b],l2,s4,by rw[HL.out];simp,hg2,by rw[List.length_append,HI.out];rfl,HST4.out,HE4.out,HBX4.out,HF4.out,HI4.out,HGL.out,H5L.out,HRC3.out⟩
    ·have HC:=zq (HNC.out.bad v s' _ _ hv hv5 HST2.out HE.out HINV.out HWD2.out hf)
     have hone:=one_fetch_bad v s' HE.out hf;have hrc:=HRC.out;rw[hone,if_pos hf]at hrc;have HRE:Hid (R.e=(fetch v s').2.e):=zq (by rw[hrc]);have HFN:=zq hf;clear hone hrc hf hn1e;unfold panE at HC;go_wp2_with fail;refine HC.out.mono ?_;rintro e w3 ⟨rfl,hf3⟩;have HF3:=zq ((HFR.out.trans HF2.out).trans hf3);clear hf3;go_wp2;exact⟨rfl,.inr ⟨by rw[HRE.out];exact HFN.out,by rw[HRE.out];rfl⟩,HF3.out⟩
end
section
open Go.RowKit
theorem wpList_push2 {P:Program}{ops:Array Oper}{rest:List Oper}{o:Oper}{a:Act}{w:World}{Q:Exit->Act->World->Prop}(hgd:o.guard=none)(s x:Operand)(t:TypeId)
  (ho:o.op= .call {callee:= .builtin .append,args:=#[s,x],argTypes:=#[t,t]})
  (base:Nat) (e:TypeId) (z:Value) (size bytes:Nat) (ht:P.underlying t=some (.slice e)) (hinfo:(P.info? e).map (fun i=>(i.zero,i.size,i.bytes))=some (some z,size,bytes))
  (hzs:z.cells.size=size) (hsz:0<size)
  (A:Option Addr) (n c:Nat) (xs:List Value) (hs:a.eval s= .slice A n c) (hown:Hid (w.ownsRow base e size (.slice A n c) n xs))
  (ad:Addr) (m cc:Nat) (news:List Value) (hx:a.eval x= .slice (some ad) m cc) (hl:Hid (news.length=m*size)) (hnews:Hid (∀j u,news[j]?=some u->w.cell? (ad.add j)=some u)) (h1:Hid (∀u∈news,u.oneCell'=true))
  (hb:Hid (n+m<=maxLen/\(n+m)*bytes<=140737488355328/\base<=w.heap.size))
  (h: ∀A' c' w',Hid (w'.ownsRow base e size (.slice A' (n+m) c') (n+m) (xs++news))->Hid (w.grownBy w' (Value.ownBlock (.slice A n c)))->Hid (Value.ownBlock (.slice A' (n+m) c')=Value.ownBlock (.slice A n c)\/Value.ownBlock (.slice A' (n+m) c')=some w.heap.size)->
   wpList P ops Q rest (a.put o.dst (.slice A' (n+m) c')) w'):wpList P ops Q (o::rest) a w:=by
 obtain⟨i,hi,hz,hsize,hby⟩:=info_parts hinfo;refine wpList_append_own_at w hgd s x t ho base e i z size bytes ht hi hz hsize hby hzs hsz (.slice A n c) n xs hs hown.out ad m cc news hx hl.out hnews.out h1.out hb.out.1 hb.out.2.1 hb.out.2.2 ?_;intro v' w' h2 h3 _ h5;obtain⟨A',c',rfl⟩:=own_shape h2;exact h A' c' w' h2 h3 h5
structure EnR (base lo hi:Nat) (w:World) (s:WS) (AV:Option Addr) (nV cV:Nat) (AO:Option Addr) (nO cO:Nat):Prop where
 v:SlI base w AV nV cV s.V
 len:s.out.length=nO
 o:w.ownsRow base 185 2 (.slice AO nO cO) nO (pairs s.out)
 oz: ∀k,Value.ownBlock (.slice AO nO cO)=some k->k<lo\/hi<=k
 wid: ∀x∈s.out,0<=x.2/\x.2<=64
def enCells (id:Int)(s:WS)(size:Int)(AV:Option Addr)(nV cV:Nat)(AO:Option Addr)(nO cO:Nat):Array Value:=#[.int .i64 id,.slice AV nV cV,.slice AO nO cO,.int .i64 size,.int .i64 s.place]
structure EnAt (base lo hi g:Nat) (id:Int) (w:World) (s:WS):Prop where
 gb:base<=g
 gz:g<lo\/hi<=g
 sz:base<=w.heap.size/\hi<=w.heap.size
 rd:s.rd=false
 mem: ∃AV nV cV AO nO cO,Has w g 227 (enCells id s (totalOf s.out) AV nV cV AO nO cO)/\EnR base lo hi w s AV nV cV AO nO cO
section
variable {base lo hi g:Nat} {w w':World} {s:WS} {AV:Option Addr} {nV cV:Nat} {AO:Option Addr} {nO cO:Nat} {id:Int}
theorem EnR.under (h:EnR base lo hi w s AV nV cV AO nO cO)(hb:Below w.heap.size w w')(hB:base<=w.heap.size):EnR base lo hi w' s AV nV cV AO nO cO:=
 ⟨h.v.below (hb.mono hB),h.len,own_under h.o hb (Nat.le_refl _),h.oz,h.wid⟩
theorem EnAt.under (h:EnAt base lo hi g id w s)(hb:Below w.heap.size w w'):EnAt base lo hi g id w' s:=by
 obtain⟨AV,nV,cV,AO,nO,cO,h1,h2⟩:=h.mem;exact⟨h.gb,h.gz,⟨Nat.le_trans h.sz.1 hb.size,Nat.le_trans h.sz.2 hb.size⟩,h.rd,AV,nV,cV,AO,nO,cO,h1.u hb,h2.under hb h.sz.1⟩
theorem EnR.store {cs:Array Value}(h:EnR base lo hi w s AV nV cV AO nO cO)(hh:Has w g 227 cs)(hg:base<=g)(hB:base<=w.heap.size)(i:Nat)(u:Value):EnR base lo hi (w.setCell ⟨g,i,none⟩ u) s AV nV cV AO nO cO:=by
 have hgr:w.grownBy (w.setCell ⟨g,i,none⟩ u) (some g):=only_store (only_refl w (some g)) rfl u;exact⟨h.v.below (below_store hg hB i u),h.len,own_keep h.o hgr (own_apart h.o hh (by decide)),h.oz,h.wid⟩
theorem en_store {cs:Array Value}(hh:Has w g 227 cs)(hg:base<=g)(hz:g<lo\/hi<=g)(hB:base<=w.heap.size)(i:Nat)(u:Value):FrZ base lo hi w (w.setCell ⟨g,i,none⟩ u):=
 frz_store hh (by decide) hg hz hB i u
theorem EnR.grow (h:EnR base lo hi w s AV nV cV AO nO cO)(hB:base<=w.heap.size)(hh:hi<=w.heap.size)(n k:Int)(hk:0<=k/\k<=64)(A':Option Addr)(c':Nat)(ho:w'.ownsRow base 185 2 (.slice A' (nO+1) c') (nO+1) (pairs s.out++[.int .i64 n,.int .i64 k]))(hg:w.grownBy w' (Value.ownBlock (.slice AO nO cO)))
  (hb:Value.ownBlock (.slice A' (nO+1) c')=Value.ownBlock (.slice AO nO cO)\/Value.ownBlock (.slice A' (nO+1) c')=some w.heap.size):
  EnR base lo hi w' {s with out:=s.out++[(n,k)]} AV nV cV A' (nO+1) c'/\FrZ base lo hi w w':=by
 have hf:FrZ base lo hi w w':=frz_grown h.o (by decide) hB hh hg (Nat.le_refl _) h.oz;refine⟨⟨h.v.below hf.b,by simp[h.len],by simpa[pairs]using ho,fun k hk=>?_,fun x hx=>?_⟩,hf⟩
 ·rcases hb with e|e
  ·rw[e]at hk;exact h.oz k hk
  ·rw[e]at hk;injection hk with hk;omega
 ·rcases List.mem_append.1 hx with hx|hx
  ·exact h.wid x hx
  ·rw[List.mem_singleton]at hx;subst hx;exact hk
end
theorem next_nil (base lo hi g:Nat)(id:Int)(s:WS)(w:World)(h:EnAt base lo hi g id w s)(hV:s.V=[]):
  Calls Tryz.prog 211 #[.pointer (some ⟨g,0,none⟩)] w fun e w'=>e=panE 20/\w=w':=by
 obtain⟨AV,nV,cV,AO,nO,cO,h1,h2⟩:=h.mem;have hn:nV=0:=by rw[<-h2.v.len,hV];rfl
 subst hn;have k1:w.cell? ⟨g,1,none⟩=some (.slice AV 0 cV):=by rw[h1.cell];rfl
 clear h1 h2 h;unfold panE;go_enter Tryz.func211,Tryz.ntmps211;go_wp2;exact⟨rfl,rfl,rfl⟩
theorem next_some (base lo hi g:Nat)(id:Int)(s:WS)(V0:Int)(VT:List Int)(w:World)(h:EnAt base lo hi g id w s)(hV:s.V=V0::VT):
  Calls Tryz.prog 211 #[.pointer (some ⟨g,0,none⟩)] w fun e w'=>e= .returned (.int .i64 V0)/\EnAt base lo hi g id w' {s with V:=VT} /\FrZ base lo hi w w':=by
 obtain⟨AV,nV,cV,AO,nO,cO,h1,h2⟩:=h.mem;obtain⟨m,hm⟩: ∃m,nV=m+1:=⟨nV-1,by rw[<-h2.v.len,hV];simp⟩
 subst hm;have hne:(((m+1:Nat):Int)==0)=false:=by rw[beq_eq_false_iff_ne];omega
 obtain⟨vb,voff,rfl,hcv⟩:=h2.v.sl.at_ (j:=0) (u:= .int .i64 V0) (by rw[hV];rfl);rw[Nat.add_zero]at hcv;have hcapv:=h2.v.cap;have hsl:=h2.v.sl.from_ hcapv (p:=1) (by omega);have hbk:=from_block (A:=some ⟨vb,voff,none⟩) (c:=cV) (p:=1);obtain⟨A2,hA2⟩:=geZ ((if cV=1 then some (⟨vb,voff,none⟩:Addr)else(some (⟨vb,voff,none⟩:Addr)).map (·.add (1*1))));have e1: ∀w,(Instr.sliceAt 22 (.slice (some ⟨vb,voff,none⟩) (m+1) cV) (some (.int .i64 1)) none none).run Tryz.prog w= .ok (.slice A2 m (cV-1)) w:=by
  intro w;have:=cut_from 22 3 Tryz.underlying22 (by kernel_rfl) (by kernel_rfl) (some ⟨vb,voff,none⟩) (m+1) cV 1 (by omega) w;rw[hA2]at this;exact this
 rw[hA2]at hsl hbk;have hlow:low base A2:=fun a' ha'=>by
  obtain⟨a,h3,h4⟩:=hbk a' ha';rw[h4];exact h2.v.low (by omega) a h3
 have hVT:SlI base w A2 m (cV-1) VT:=⟨by have:=h2.v.len;rw[hV]at this;simpa using this,by omega,by rw[hV]at hsl;exact hsl,fun _=>hlow⟩
 have k1:w.cell? ⟨g,1,none⟩=some (.slice (some ⟨vb,voff,none⟩) (m+1) cV):=by rw[h1.cell];rfl
 have z1:=h1.thaw 1;have HVT:=zq hVT;have H:=zq h;have H1:=zq h1;have H2:=zq h2;clear hVT hlow hsl hbk hA2 hV h1 h2 h;go_enter Tryz.func211,Tryz.ntmps211;go_wp2;go_ret
 have hf:=en_store (lo:=lo) (hi:=hi) H1.out H.out.gb H.out.gz H.out.sz.1 1 (.slice A2 m (cV-1));have hr:=H2.out.store H1.out H.out.gb H.out.sz.1 1 (.slice A2 m (cV-1));exact⟨rfl,⟨H.out.gb,H.out.gz,⟨Nat.le_trans H.out.sz.1 hf.b.size,Nat.le_trans H.out.sz.2 hf.b.size⟩,H.out.rd,A2,m,cV-1,AO,nO,cO,H1.out.stored 1 _,⟨HVT.out.below hf.b,hr.len,hr.o,hr.oz,hr.wid⟩⟩,hf⟩
end
section
open Go.RowKit
theorem total_bounds {l:List (Int×Int)}(h: ∀x∈l,0<=x.2/\x.2<=64):0<=totalOf l/\totalOf l<=64*l.length:=by
 induction l with
 |nil=>simp[totalOf]
 |cons x l ih=>
  have h1:=h x (by simp);have h2:=ih (fun y hy=>h y (by simp[hy]));rw[total_cons,List.length_cons];omega
theorem enum_five (base lo hi g:Nat)(id:Int)(s:WS)(w:World)(h:EnAt base lo hi g id w s)(hwd:Wd w)(hout:s.out.length<=1000000):
  Calls Tryz.prog 184 #[.pointer (some ⟨g,0,none⟩),.int .i64 5] w fun e w'=>e= .returned (.int .i64 id)/\EnAt base lo hi g id w' {s with out:=s.out++[(id,(widthOf 5:Int))]} /\FrZ base lo hi w w':=by
 obtain⟨kw,hkw⟩:=geZ (widthOf 5);have hkl:kw<=32:=by rw[<-hkw];exact width_le _
 have HWA:=zq (fun W (hW:Wd W)=>(show Calls Tryz.prog 212 #[.int .i64 5] W fun e w'=>e= .returned (.int .i64 (kw:Int))/\W=w' from by rw[<-hkw];exact width_any 5 W hW));rw[hkw];clear hkw;have HX:=zq h;have HWX:=zq hwd;have HFX:=zq (FrZ.refl base lo hi w);have HOUT:=zq hout;have q0:w.cell? ⟨g,0,none⟩=some (.int .i64 id):=by obtain⟨AV,nV,cV,AO,nO,cO,hh,_⟩:=h.mem;rw[hh.cell];rfl
 clear h hwd hout;obtain⟨AV,nV,cV,AO,nO,cO,hh,hr⟩:=HX.out.mem;have HC:=zq (HWA.out w HWX.out);have hkm:(0:Int)<=(kw:Int)/\(kw:Int)<=64:=by omega
 have hlo:s.out.length=nO:=hr.len;have htb:0<=totalOf s.out/\totalOf s.out<=64*(s.out.length:Int):=total_bounds hr.wid
 try simp only at hh
 have hno:nO<=1048576:=by have:s.out.length<=1000000:=HOUT.out;omega
 obtain⟨T,hT⟩:=geZ (totalOf s.out);rw[hT]at hh htb;have hT0:0<=T:=htb.1;have hT1:T<=67108864:=by have:=htb.2;omega
 have q2:w.cell? ⟨g,2,none⟩=some (.slice AO nO cO):=by rw[hh.cell];rfl
 have hbl:Below w.heap.size w (w.alloc (.cells #[.int .i64 id,.int .i64 (kw:Int)] 185)):=bA;have hbsz:=HX.out.sz;have HL:=zq (And.intro (hh.u hbl) (hr.under hbl hbsz.1));have HFL:=zq (frz_call (lo:=lo) hbl hbsz.1 hbsz.2);have hO3:=zq (HL.out.2.o);have hN:=zq (show([.int .i64 id,.int .i64 (kw:Int)]:List Value).length=1*2 from rfl);have hC:=cell_news w #[.int .i64 id,.int .i64 (kw:Int)] 185 [.int .i64 id,.int .i64 (kw:Int)] rfl;have h1c:Hid (∀u∈([.int .i64 id,.int .i64 (kw:Int)]:List Value),u.oneCell'=true):=by
  intro u hu;simp only[List.mem_cons,List.not_mem_nil,or_false]at hu
  rcases hu with rfl|rfl<;>rfl
 have hBD:Hid (nO+1<=maxLen/\(nO+1)*16<=140737488355328/\base<=(w.alloc (.cells #[.int .i64 id,.int .i64 (kw:Int)] 185)).heap.size):=zq ⟨by unfold maxLen;omega,by omega,Nat.le_trans hbsz.1 hbl.size⟩;have HT:=zq hT;have HKM:=zq hkm;have HHL:=zq (Nat.le_trans hbsz.2 hbl.size);clear hh hr hbl hbsz hT hkm htb hno hlo HWX HWA;go_enter Tryz.func184,Tryz.ntmps184;go_wp2_with fail;refine HC.out.mono ?_;rintro e w' ⟨rfl,rfl⟩;go_wp2_with (with_reducible refine wpList_push2 (o:=⟨some 37,_,_,_,_,_⟩) rfl (.tmp 32) (.tmp 36) 106 rfl base 185 (.agg #[.int .i64 0,.int .i64 0]) 2 16 Tryz.underlying106 info_bits ?hz (by decide) AO nO cO (pairs s.out) ?hs hO3 ⟨w.heap.size,0,none⟩ 1 1 [.int .i64 id,.int .i64 (kw:Int)] ?hx hN hC h1c hBD ?next)
 all_goals try rfl
 intro A4 c4 w4 ho4 hg4 hb4;obtain⟨hr4,hf4⟩:=HL.out.2.grow hBD.out.2.2 HHL.out id kw HKM.out A4 c4 ho4.out hg4.out (by rw[show(w.alloc (.cells #[.int .i64 id,.int .i64 (kw:Int)] 185)).heap.size=w.heap.size+1 by simp];exact hb4.out);have hh4:Has w4 g 227 _:=HL.out.1.grow hg4.out (fun e=>own_apart HL.out.2.o HL.out.1 (by decide) e.symm);have z2:=hh4.thaw 2;have q22:w4.cell? ⟨g,2,none⟩=some (.slice AO nO cO):=by rw[hh4.cell];rfl
 have hs1':=hh4.stored 2 (.slice A4 (nO+1) c4);have z3:=hs1'.thaw 3;have q3:(w4.setCell ⟨g,2,none⟩ (.slice A4 (nO+1) c4)).cell? ⟨g,3,none⟩=some (.int .i64 T):=by rw[hs1'.cell];rfl
 clear hs1';have hB4:base<=w4.heap.size:=Nat.le_trans hBD.out.2.2 hf4.b.size;have HR4:=zq hr4;have HF4:=zq (HFX.out.trans (HFL.out.trans hf4));have HH4:=zq hh4;have HHI4:=zq (Nat.le_trans HHL.out hf4.b.size);clear hr4 hf4 hh4 ho4 hg4 hb4 HFL HFX HL;go_wp2;go_ret
 have hs1:=HH4.out.stored 2 (.slice A4 (nO+1) c4);have f1:=en_store (lo:=lo) (hi:=hi) HH4.out HX.out.gb HX.out.gz hB4 2 (.slice A4 (nO+1) c4);have r1:=HR4.out.store HH4.out HX.out.gb hB4 2 (.slice A4 (nO+1) c4);have hB5:base<=(w4.setCell ⟨g,2,none⟩ (.slice A4 (nO+1) c4)).heap.size:=Nat.le_trans hB4 f1.b.size;have f2:=en_store (lo:=lo) (hi:=hi) hs1 HX.out.gb HX.out.gz hB5 3 (.int .i64 (T+kw));have r2:=r1.store hs1 HX.out.gb hB5 3 (.int .i64 (T+kw));have hf:=HF4.out.trans (f1.trans f2);refine⟨rfl,⟨HX.out.gb,HX.out.gz,⟨Nat.le_trans hB5 f2.b.size,Nat.le_trans HHI4.out (f1.trans f2).b.size⟩,HX.out.rd,AV,nV,cV,A4,nO+1,c4,?_,r2⟩,hf⟩;have e1:totalOf (s.out++[(id,(kw:Int))])=T+kw:=by rw[total_snoc,HT.out]
 rw[e1];exact hs1.stored 3 _
theorem enum_seven (base lo hi g:Nat)(id:Int)(s:WS)(w:World)(h:EnAt base lo hi g id w s)(hwd:Wd w)(hgb:0<base)(hout:s.out.length<=1000000):
  Calls Tryz.prog 184 #[.pointer (some ⟨g,0,none⟩),.int .i64 7] w fun e w'=>e= .returned (.int .i64 0)/\EnAt base lo hi g id w' {s with place:=s.out.length,out:=s.out++[(0,(widthOf 7:Int))]} /\FrZ base lo hi w w':=by
 obtain⟨kw,hkw⟩:=geZ (widthOf 7);have hkl:kw<=32:=by rw[<-hkw];exact width_le _
 have HWA:=zq (fun W (hW:Wd W)=>(show Calls Tryz.prog 212 #[.int .i64 7] W fun e w'=>e= .returned (.int .i64 (kw:Int))/\W=w' from by rw[<-hkw];exact width_any 7 W hW));rw[hkw];clear hkw;have hq: ∃(AO:Option Addr) (nO cO:Nat),w.cell? ⟨g,2,none⟩=some (.slice AO nO cO)/\w.cell? ⟨g,4,none⟩=some (.int .i64 s.place)/\w.frozen? ⟨g,4,none⟩=false/\s.out.length=nO/\EnAt base lo hi g id (w.setCell ⟨g,4,none⟩ (.int .i64 nO)) {s with place:=s.out.length} /\FrZ base lo hi w (w.setCell ⟨g,4,none⟩ (.int .i64 nO)):=by
  obtain⟨AV,nV,cV,AO,nO,cO,hh,hr⟩:=h.mem;have f:=en_store (lo:=lo) (hi:=hi) hh h.gb h.gz h.sz.1 4 (.int .i64 nO);have r:=hr.store hh h.gb h.sz.1 4 (.int .i64 nO);refine⟨AO,nO,cO,by rw[hh.cell];rfl,by rw[hh.cell];rfl,hh.thaw 4,hr.len,⟨h.gb,h.gz,⟨Nat.le_trans h.sz.1 f.b.size,Nat.le_trans h.sz.2 f.b.size⟩,h.rd,AV,nV,cV,AO,nO,cO,?_,⟨r.v,r.len,r.o,r.oz,r.wid⟩⟩,f⟩;have:=hh.stored 4 (.int .i64 nO);show Has _ g _ #[.int .i64 id,.slice AV nV cV,.slice AO nO cO,.int .i64 (totalOf s.out),.int .i64 (s.out.length:Int)]
  rw[hr.len];exact this
 obtain⟨AO0,nO0,cO0,p2,p4,z4,hlen0,hx,hfx⟩:=hq;have HX:=zq hx;have HWX:=zq (hwd.frz hgb hfx);have HFX:=zq hfx;have HOUT:=zq hout;have HLN0:=zq hlen0;clear h hwd hout hx hfx hlen0;obtain⟨w1,hw1⟩:=geZ (w.setCell ⟨g,4,none⟩ (.int .i64 nO0));rw[hw1]at HX HWX HFX;obtain⟨AV,nV,cV,AO,nO,cO,hh,hr⟩:=HX.out.mem;have HC:=zq (HWA.out w1 HWX.out);have hkm:(0:Int)<=(kw:Int)/\(kw:Int)<=64:=by omega
 have hlo:s.out.length=nO:=hr.len;have htb:0<=totalOf s.out/\totalOf s.out<=64*(s.out.length:Int):=total_bounds hr.wid
 try simp only at hh
 have hno:nO<=1048576:=by have:s.out.length<=1000000:=HOUT.out;omega
 obtain⟨T,hT⟩:=geZ (totalOf s.out);rw[hT]at hh htb;have hT0:0<=T:=htb.1;have hT1:T<=67108864:=by have:=htb.2;omega
 have q2:w1.cell? ⟨g,2,none⟩=some (.slice AO nO cO):=by rw[hh.cell];rfl
 have hbl:Below w1.heap.size w1 (w1.alloc (.cells #[.int .i64 0,.int .i64 (kw:Int)] 185)):=bA;have hbsz:=HX.out.sz;have HL:=zq (And.intro (hh.u hbl) (hr.under hbl hbsz.1));have HFL:=zq (frz_call (lo:=lo) hbl hbsz.1 hbsz.2);have hO3:=zq (HL.out.2.o);have hN:=zq (show([.int .i64 0,.int .i64 (kw:Int)]:List Value).length=1*2 from rfl);have hC:=cell_news w1 #[.int .i64 0,.int .i64 (kw:Int)] 185 [.int .i64 0,.int .i64 (kw:Int)] rfl;have h1c:Hid (∀u∈([.int .i64 0,.int .i64 (kw:Int)]:List Value),u.oneCell'=true):=by
  intro u hu;simp only[List.mem_cons,List.not_mem_nil,or_false]at hu
  rcases hu with rfl|rfl<;>rfl
 have hBD:Hid (nO+1<=maxLen/\(nO+1)*16<=140737488355328/\base<=(w1.alloc (.cells #[.int .i64 0,.int .i64 (kw:Int)] 185)).heap.size):=zq ⟨by unfold maxLen;omega,by omega,Nat.le_trans hbsz.1 hbl.size⟩;have HT:=zq hT;have HKM:=zq hkm;have HHL:=zq (Nat.le_trans hbsz.2 hbl.size);clear hh hr hbl hbsz hT hkm htb hno hlo HWX HWA;have HW1:=zq hw1;clear hw1;go_enter Tryz.func184,Tryz.ntmps184;go_wp2_with fail;rw[HW1.out];refine HC.out.mono ?_;rintro e w' ⟨rfl,rfl⟩;go_wp2_with (with_reducible refine wpList_push2 (o:=⟨some 37,_,_,_,_,_⟩) rfl (.tmp 32) (.tmp 36) 106 rfl base 185 (.agg #[.int .i64 0,.int .i64 0]) 2 16 Tryz.underlying106 info_bits ?hz (by decide) AO nO cO (pairs s.out) ?hs hO3 ⟨w1.heap.size,0,none⟩ 1 1 [.int .i64 0,.int .i64 (kw:Int)] ?hx hN hC h1c hBD ?next)
 all_goals try rfl
 intro A4 c4 w4 ho4 hg4 hb4;obtain⟨hr4,hf4⟩:=HL.out.2.grow hBD.out.2.2 HHL.out 0 kw HKM.out A4 c4 ho4.out hg4.out (by rw[show(w1.alloc (.cells #[.int .i64 0,.int .i64 (kw:Int)] 185)).heap.size=w1.heap.size+1 by simp];exact hb4.out);have hh4:Has w4 g 227 _:=HL.out.1.grow hg4.out (fun e=>own_apart HL.out.2.o HL.out.1 (by decide) e.symm);have z2:=hh4.thaw 2;have q22:w4.cell? ⟨g,2,none⟩=some (.slice AO nO cO):=by rw[hh4.cell];rfl
 have hs1':=hh4.stored 2 (.slice A4 (nO+1) c4);have z3:=hs1'.thaw 3;have q3:(w4.setCell ⟨g,2,none⟩ (.slice A4 (nO+1) c4)).cell? ⟨g,3,none⟩=some (.int .i64 T):=by rw[hs1'.cell];rfl
 clear hs1';have hB4:base<=w4.heap.size:=Nat.le_trans hBD.out.2.2 hf4.b.size;have HR4:=zq hr4;have HF4:=zq (HFX.out.trans (HFL.out.trans hf4));have HH4:=zq hh4;have HHI4:=zq (Nat.le_trans HHL.out hf4.b.size);clear hr4 hf4 hh4 ho4 hg4 hb4 HFL HFX HL;go_wp2;go_ret
 have hs1:=HH4.out.stored 2 (.slice A4 (nO+1) c4);have f1:=en_store (lo:=lo) (hi:=hi) HH4.out HX.out.gb HX.out.gz hB4 2 (.slice A4 (nO+1) c4);have r1:=HR4.out.store HH4.out HX.out.gb hB4 2 (.slice A4 (nO+1) c4);have hB5:base<=(w4.setCell ⟨g,2,none⟩ (.slice A4 (nO+1) c4)).heap.size:=Nat.le_trans hB4 f1.b.size;have f2:=en_store (lo:=lo) (hi:=hi) hs1 HX.out.gb HX.out.gz hB5 3 (.int .i64 (T+kw));have r2:=r1.store hs1 HX.out.gb hB5 3 (.int .i64 (T+kw));have hf:=HF4.out.trans (f1.trans f2);refine⟨rfl,⟨HX.out.gb,HX.out.gz,⟨Nat.le_trans hB5 f2.b.size,Nat.le_trans HHI4.out (f1.trans f2).b.size⟩,HX.out.rd,AV,nV,cV,A4,nO+1,c4,?_,r2⟩,hf⟩;have e1:totalOf (s.out++[(0,(kw:Int))])=T+kw:=by rw[total_snoc,HT.out]
 rw[e1];exact hs1.stored 3 _
theorem enum_other (base lo hi g:Nat)(id:Int)(v:Nat)(h5:v≠5)(h7:v≠7)(s:WS)(V0:Int)(VT:List Int)(hV:s.V=V0::VT)(w:World)(h:EnAt base lo hi g id w s)(hwd:Wd w)(hgb:0<base)(hout:s.out.length<=1000000):
  Calls Tryz.prog 184 #[.pointer (some ⟨g,0,none⟩),.int .i64 (v:Int)] w fun e w'=>e= .returned (.int .i64 V0)/\EnAt base lo hi g id w' {s with V:=VT,out:=s.out++[(V0,(widthOf v:Int))]} /\FrZ base lo hi w w':=by
 obtain⟨kw,hkw⟩:=geZ (widthOf v);have hkl:kw<=32:=by rw[<-hkw];exact width_le _
 have HWA:=zq (fun W (hW:Wd W)=>(show Calls Tryz.prog 212 #[.int .i64 v] W fun e w'=>e= .returned (.int .i64 (kw:Int))/\W=w' from by rw[<-hkw];exact width_any v W hW));rw[hkw];clear hkw;have HN:=zq (next_some base lo hi g id s V0 VT w h hV);have HOUT:=zq hout;have HWD:=zq hwd;have e5:((v:Int)==5)=false:=by rw[beq_eq_false_iff_ne];omega
 have e7:((v:Int)==7)=false:=by rw[beq_eq_false_iff_ne];omega
 clear h hwd hout;go_enter Tryz.func184,Tryz.ntmps184;go_wp2_with fail;refine HN.out.mono ?_;rintro e w1 ⟨rfl,hx,hfx⟩;have HX:=zq hx;have HFX:=zq hfx;have HWX:=zq (HWD.out.frz hgb hfx);clear hx hfx HN HWD;obtain⟨AV,nV,cV,AO,nO,cO,hh,hr⟩:=HX.out.mem;have HC:=zq (HWA.out w1 HWX.out);have hkm:(0:Int)<=(kw:Int)/\(kw:Int)<=64:=by omega
 have hlo:s.out.length=nO:=hr.len;have htb:0<=totalOf s.out/\totalOf s.out<=64*(s.out.length:Int):=total_bounds hr.wid
 try simp only at hh
 have hno:nO<=1048576:=by have:s.out.length<=1000000:=HOUT.out;omega
 obtain⟨T,hT⟩:=geZ (totalOf s.out);rw[hT]at hh htb;have hT0:0<=T:=htb.1;have hT1:T<=67108864:=by have:=htb.2;omega
 have q2:w1.cell? ⟨g,2,none⟩=some (.slice AO nO cO):=by rw[hh.cell];rfl
 have hbl:Below w1.heap.size w1 (w1.alloc (.cells #[.int .i64 V0,.int .i64 (kw:Int)] 185)):=bA;have hbsz:=HX.out.sz;have HL:=zq (And.intro (hh.u hbl) (hr.under hbl hbsz.1));have HFL:=zq (frz_call (lo:=lo) hbl hbsz.1 hbsz.2);have hO3:=zq (HL.out.2.o);have hN:=zq (show([.int .i64 V0,.int .i64 (kw:Int)]:List Value).length=1*2 from rfl);have hC:=cell_news w1 #[.int .i64 V0,.int .i64 (kw:Int)] 185 [.int .i64 V0,.int .i64 (kw:Int)] rfl;have h1c:Hid (∀u∈([.int .i64 V0,.int .i64 (kw:Int)]:List Value),u.oneCell'=true):=by
  intro u hu;simp only[List.mem_cons,List.not_mem_nil,or_false]at hu
  rcases hu with rfl|rfl<;>rfl
 have hBD:Hid (nO+1<=maxLen/\(nO+1)*16<=140737488355328/\base<=(w1.alloc (.cells #[.int .i64 V0,.int .i64 (kw:Int)] 185)).heap.size):=zq ⟨by unfold maxLen;omega,by omega,Nat.le_trans hbsz.1 hbl.size⟩;have HT:=zq hT;have HKM:=zq hkm;have HHL:=zq (Nat.le_trans hbsz.2 hbl.size);clear hh hr hbl hbsz hT hkm htb hno hlo HWX HWA;go_wp2_with fail;refine HC.out.mono ?_;rintro e w' ⟨rfl,rfl⟩;go_wp2_with (with_reducible refine wpList_push2 (o:=⟨some 37,_,_,_,_,_⟩) rfl (.tmp 32) (.tmp 36) 106 rfl base 185 (.agg #[.int .i64 0,.int .i64 0]) 2 16 Tryz.underlying106 info_bits ?hz (by decide) AO nO cO (pairs s.out) ?hs hO3 ⟨w1.heap.size,0,none⟩ 1 1 [.int .i64 V0,.int .i64 (kw:Int)] ?hx hN hC h1c hBD ?next)
 all_goals try rfl
 intro A4 c4 w4 ho4 hg4 hb4;obtain⟨hr4,hf4⟩:=HL.out.2.grow hBD.out.2.2 HHL.out V0 kw HKM.out A4 c4 ho4.out hg4.out (by rw[show(w1.alloc (.cells #[.int .i64 V0,.int .i64 (kw:Int)] 185)).heap.size=w1.heap.size+1 by simp];exact hb4.out);have hh4:Has w4 g 227 _:=HL.out.1.grow hg4.out (fun e=>own_apart HL.out.2.o HL.out.1 (by decide) e.symm);have z2:=hh4.thaw 2;have q22:w4.cell? ⟨g,2,none⟩=some (.slice AO nO cO):=by rw[hh4.cell];rfl
 have hs1':=hh4.stored 2 (.slice A4 (nO+1) c4);have z3:=hs1'.thaw 3;have q3:(w4.setCell ⟨g,2,none⟩ (.slice A4 (nO+1) c4)).cell? ⟨g,3,none⟩=some (.int .i64 T):=by rw[hs1'.cell];rfl
 clear hs1';have hB4:base<=w4.heap.size:=Nat.le_trans hBD.out.2.2 hf4.b.size;have HR4:=zq hr4;have HF4:=zq (HFX.out.trans (HFL.out.trans hf4));have HH4:=zq hh4;have HHI4:=zq (Nat.le_trans HHL.out hf4.b.size);clear hr4 hf4 hh4 ho4 hg4 hb4 HFL HFX HL;go_wp2;go_ret
 have hs1:=HH4.out.stored 2 (.slice A4 (nO+1) c4);have f1:=en_store (lo:=lo) (hi:=hi) HH4.out HX.out.gb HX.out.gz hB4 2 (.slice A4 (nO+1) c4);have r1:=HR4.out.store HH4.out HX.out.gb hB4 2 (.slice A4 (nO+1) c4);have hB5:base<=(w4.setCell ⟨g,2,none⟩ (.slice A4 (nO+1) c4)).heap.size:=Nat.le_trans hB4 f1.b.size;have f2:=en_store (lo:=lo) (hi:=hi) hs1 HX.out.gb HX.out.gz hB5 3 (.int .i64 (T+kw));have r2:=r1.store hs1 HX.out.gb hB5 3 (.int .i64 (T+kw));have hf:=HF4.out.trans (f1.trans f2);refine⟨rfl,⟨HX.out.gb,HX.out.gz,⟨Nat.le_trans hB5 f2.b.size,Nat.le_trans HHI4.out (f1.trans f2).b.size⟩,HX.out.rd,AV,nV,cV,A4,nO+1,c4,?_,r2⟩,hf⟩;have e1:totalOf (s.out++[(V0,(kw:Int))])=T+kw:=by rw[total_snoc,HT.out]
 rw[e1];exact hs1.stored 3 _
theorem enum_none (base lo hi g:Nat)(id:Int)(v:Nat)(h5:v≠5)(h7:v≠7)(s:WS)(hV:s.V=[])(w:World)(h:EnAt base lo hi g id w s):
  Calls Tryz.prog 184 #[.pointer (some ⟨g,0,none⟩),.int .i64 (v:Int)] w fun e w'=>e=panE 20/\FrZ base lo hi w w':=by
 have HN:=zq (next_nil base lo hi g id s w h hV);have e5:((v:Int)==5)=false:=by rw[beq_eq_false_iff_ne];omega
 have e7:((v:Int)==7)=false:=by rw[beq_eq_false_iff_ne];omega
 clear h;unfold panE at*;go_enter Tryz.func184,Tryz.ntmps184;go_wp2_with fail;refine HN.out.mono ?_;rintro e w1 ⟨rfl,rfl⟩;go_wp2;exact⟨rfl,rfl,FrZ.refl _ _ _ _⟩
end
section
open Go.RowKit
theorem EnAt.same {base lo hi g:Nat}{id:Int}{w:World}{s s':WS}(h:EnAt base lo hi g id w s)(h1:s'.V=s.V)(h2:s'.out=s.out)(h3:s'.place=s.place)(h4:s'.rd=s.rd):EnAt base lo hi g id w s':=by
 obtain⟨AV,nV,cV,AO,nO,cO,a,b⟩:=h.mem;refine⟨h.gb,h.gz,h.sz,by rw[h4];exact h.rd,AV,nV,cV,AO,nO,cO,?_,⟨by rw[h1];exact b.v,by rw[h2];exact b.len,by rw[h2];exact b.o,b.oz,by rw[h2];exact b.wid⟩⟩;have e:enCells id s' (totalOf s'.out) AV nV cV AO nO cO=enCells id s (totalOf s.out) AV nV cV AO nO cO:=by
  unfold enCells;rw[h2,h3]
 rw[e];exact a
theorem enc_numc (base lo hi g:Nat)(id:Int)(hgb:0<base):NumC (EnAt base lo hi g id) 184 g base lo hi:=by
 refine⟨enters_of Tryz.func184 (by kernel_rfl) rfl,hgb,fun w s h=>h.sz,fun w w' s h hb=>h.under hb,?_,?_⟩
 ·intro v s w k hv h5 h he hinv hwd hf
  have ho:s.out.length<=1000000:=by have:=hinv.o;omega
  by_cases h7:v=7
  ·subst h7
   have hfe:fetch (7:Nat) s=(0,s):=by rw[fetch,h.rd,if_neg (by decide),if_pos (by rfl)]
   rw[hfe];exact(enum_seven base lo hi g id s w h hwd hgb ho).mono fun e w' ⟨a,b,c⟩=>⟨a,b,c⟩
  ·have k7: ¬((v:Int)=7):=by omega
   have k5: ¬((v:Int)=5):=by omega
   have hfe:fetch v s=if s.V=[]then(0, {s with e:=20})else(s.V.headD 0, {s with V:=s.V.tail}):=by rw[fetch,h.rd,if_neg (by decide),if_neg k7]
   cases hV:s.V with
   |nil=>rw[hfe,if_pos hV]at hf;exact absurd hf (by show¬((20:Int)=0);decide)
   |cons V0 VT=>
    rw[hfe,if_neg (by rw[hV];simp),hV];refine(enum_other base lo hi g id v h5 h7 s V0 VT hV w h hwd hgb ho).mono fun e w' ⟨a,b,c⟩=>⟨a,b.same ?_ ?_ ?_ ?_,c⟩
    all_goals (rw[keep,if_neg k7,if_neg k5]<;>rfl)
 ·intro v s w k hv h5 h he hinv hwd hf
  by_cases h7:v=7
  ·subst h7
   have hfe:fetch (7:Nat) s=(0,s):=by rw[fetch,h.rd,if_neg (by decide),if_pos (by rfl)]
   rw[hfe]at hf;exact absurd he hf
  ·have k7: ¬((v:Int)=7):=by omega
   have hfe:fetch v s=if s.V=[]then(0, {s with e:=20})else(s.V.headD 0, {s with V:=s.V.tail}):=by rw[fetch,h.rd,if_neg (by decide),if_neg k7]
   by_cases hV:s.V=[]
   ·rw[hfe,if_pos hV]
    exact enum_none base lo hi g id v h5 h7 s hV w h
   ·rw[hfe,if_neg hV]at hf
    exact absurd he hf
/-! Which blocks are an encoder's is known: those that are made behind it are none. -/
theorem EnAt.zone {base lo hi g:Nat}{id:Int}{w w':World}{s:WS}(h:EnAt base lo hi g id w s)(hb:Below w.heap.size w w'):EnAt base w.heap.size w'.heap.size g id w' s:=by
 obtain⟨AV,nV,cV,AO,nO,cO,a,b⟩:=h.mem;refine⟨h.gb,.inl a.lt,⟨Nat.le_trans h.sz.1 hb.size,Nat.le_refl _⟩,h.rd,AV,nV,cV,AO,nO,cO,a.u hb,?_⟩;have r:=b.under hb h.sz.1;exact⟨r.v,r.len,r.o,fun k hk=> .inl (b.o.lt k hk).2,r.wid⟩
theorem no5_ast {id:Int}(h:knownB id=true):no5L (astOf id)=true/\szL (astOf id)<=900:=by
 rcases known_cases h with rfl|rfl|rfl|rfl|rfl|rfl|rfl|rfl|rfl|rfl|rfl|rfl
 all_goals exact⟨by kernel_rfl,of_decide_eq_true (by kernel_rfl)⟩
def EncPost (base g:Nat)(id:Int)(R:WS)(w:World)(e:Ending)(w':World):Prop:=
 ((knownB id=false/\e=panE 50)\/(knownB id=true/\((R.e=0/\e= .returned (.int .i64 id)/\ ∃lo hi,EnAt base lo hi g id w' R)\/(R.e≠0/\e=panE R.e))))/\Below base w w'
theorem packet_enc (base g:Nat)(id:Int)(V:List Int)(w:World)(h:EnAt base 0 0 g id w ⟨V,false,[],[],[],0,0⟩)(hwd:Wd w)(hgb:0<base)(hV:V.length<=500000):
  Calls Tryz.prog 185 #[.agg #[.func (.func 184) #[.pointer (some ⟨g,0,none⟩)] #[]]] w (EncPost base g id (runL (astOf id) 0 (startS id V)) w):=by
 obtain⟨R,hR⟩:=geZ (runL (astOf id) 0 (startS id V));rw[hR];have HRR:=zq hR;clear hR;have hb0:Below w.heap.size w (w.alloc (.cells #[.func (.func 184) #[.pointer (some ⟨g,0,none⟩)] #[]] 229)):=bA;have hbx:Has (w.alloc (.cells #[.func (.func 184) #[.pointer (some ⟨g,0,none⟩)] #[]] 229)) w.heap.size 229 #[.func (.func 184) #[.pointer (some ⟨g,0,none⟩)] #[]]:=Has.made _ _ _;have HF0:=zq (frz_call (lo:=0) (hi:=0) hb0 h.sz.1 (Nat.zero_le _));have hc5:=enum_five base 0 0 g id _ _ (h.under hb0) (hwd.under hb0) (by simp);rw[w5]at hc5;have HC5:=zq hc5;have HBX:=zq hbx;have HWD:=zq (hwd.under hb0);clear hc5 hb0 hbx h hwd;go_enter Tryz.func185,Tryz.ntmps185;go_wp2_with fail;refine HC5.out.mono ?_;rintro e w1 ⟨rfl,he1,hf1⟩;have HE1:Hid (EnAt base 0 0 g id w1 (startS id V)):=zq he1;have HF1:=zq (HF0.out.trans hf1);have HBX1:=zq (HBX.out.frz (.inl rfl) hf1);have HWD1:=zq (HWD.out.frz hgb hf1);clear he1 hf1 HC5 HF0 HBX HWD
 cases hk:knownB id
 ·have HL:=zq (layout_no id hk w1)
  have HK:=zq hk;have hnil: ∀w,(binOp .eql 252 (.slice none 0 0) (.slice none 0 0)).run Tryz.prog w= .ok (.bool true) w:=fun w=>Lib.run_eql_slice_nil w _ _ none 0 0 0 0 Tryz.underlying252;clear hk;go_wp2_with fail;refine HL.out.mono ?_;rintro e w2 ⟨rfl,rfl⟩;go_wp2;exact⟨rfl,.inl ⟨HK.out,rfl⟩,HF1.out.b⟩
 ·have HL:=zq (layout_yes w1.heap.size id hk w1 (Nat.le_refl _))
  have HK:=zq hk;clear hk;go_wp2_with fail;refine HL.out.mono ?_;rintro e w2 ⟨A2,n2,c2,l,rfl,hp,hnd,hb⟩;obtain⟨pre,a,post,sh⟩:=shape_of HK.out;have hast:=no5_ast HK.out;have hn0:0<n2:=by
   rw[<-hp.len]
   cases l with
   |nil=>have:=sh.seven;rw[<-hnd]at this;simp[ndPts,c7]at this
   |cons x l=>simp
  obtain⟨ad,rfl⟩:=hp.addr hn0;have hE2:=HE1.out.zone hb;have hnil: ∀w,(binOp .eql 252 (.slice (some ad) n2 c2) (.slice none 0 0)).run Tryz.prog w= .ok (.bool false) w:=fun w=>Lib.run_eql_slice_nil w _ _ (some ad) n2 c2 0 0 Tryz.underlying252;have hsz:=szPts_le l;rw[hnd]at hsz;have hth:=through_any (enc_numc base w1.heap.size w2.heap.size g id hgb) 1000 (Nat.le_refl _) l (by omega) (by rw[hnd];exact sh.good) (by rw[hnd];exact hast.1) (startS id V) w2 (some ad) n2 c2 0 hE2 rfl (by rw[hnd,sh.seven];exact inv_start hV) (HWD1.out.under hb) hp;rw[hnd]at hth;have HTH:=zq hth;have HF2:=zq (HF1.out.trans (frz_call hb HE1.out.sz.1 (Nat.zero_le _)));have HBX2:=uH HBX1 hb;have k0:w2.cell? ⟨w.heap.size,0,none⟩=some (.func (.func 184) #[.pointer (some ⟨g,0,none⟩)] #[]):=by rw[HBX2.out.cell];rfl
  clear hth hE2 hsz hast sh hp hnd hb hn0 HL HBX1 HWD1 HF1 HE1;rw[HRR.out]at HTH;by_cases h0:R.e=0
  ·have HC:=zq (HTH.out.mono fun e w' h=>h.fine h0)
   have H0:=zq h0;clear h0 HTH;go_wp2_with fail;refine HC.out.mono ?_;rintro e w3 ⟨rfl,hst,hf3⟩;have HS:=zq hst;have HB:=zq (HF2.out.b.trans hf3.b);clear hst hf3 HC k0;go_wp2;go_ret
   exact⟨.inr ⟨HK.out,.inl ⟨H0.out,rfl,_,_,HS.out⟩⟩,HB.out⟩
  ·have HC:=zq (HTH.out.mono fun e w' h=>h.bad h0)
   have H0:=zq h0;clear h0 HTH;unfold panE at HC;go_wp2_with fail;refine HC.out.mono ?_;rintro e w3 ⟨rfl,hf3⟩;have HB:=zq (HF2.out.b.trans hf3.b);clear hf3 HC k0;go_wp2;exact⟨rfl,.inr ⟨HK.out,.inr ⟨H0.out,rfl⟩⟩,HB.out⟩
end
section
open Go.RowKit
theorem finish_more (base lo hi g:Nat)(id:Int)(s:WS)(w:World)(h:EnAt base lo hi g id w s)(hV:s.V≠[]):
  Calls Tryz.prog 186 #[.pointer (some ⟨g,0,none⟩)] w fun e w'=>e=panE 20/\w=w':=by
 obtain⟨AV,nV,cV,AO,nO,cO,h1,h2⟩:=h.mem;have hn:(0:Int)<nV:=by
  rw[<-h2.v.len];have:s.V.length≠0:=fun h=>hV (List.eq_nil_of_length_eq_zero h);omega
 have k1:w.cell? ⟨g,1,none⟩=some (.slice AV nV cV):=by rw[h1.cell];rfl
 clear h1 h2 h hV;unfold panE;go_enter Tryz.func186,Tryz.ntmps186;go_wp2;exact⟨rfl,rfl,rfl⟩
theorem finish_long (base lo hi g:Nat)(id:Int)(s:WS)(w:World)(h:EnAt base lo hi g id w s)(hV:s.V=[])(h8:8184<totalOf s.out):
  Calls Tryz.prog 186 #[.pointer (some ⟨g,0,none⟩)] w fun e w'=>e=panE 2/\w=w':=by
 obtain⟨AV,nV,cV,AO,nO,cO,h1,h2⟩:=h.mem;have hn:nV=0:=by rw[<-h2.v.len,hV];rfl
 subst hn;have k1:w.cell? ⟨g,1,none⟩=some (.slice AV 0 cV):=by rw[h1.cell];rfl
 have k3:w.cell? ⟨g,3,none⟩=some (.int .i64 (totalOf s.out)):=by rw[h1.cell];rfl
 generalize totalOf s.out=T at*;clear h1 h2 h hV;unfold panE;go_enter Tryz.func186,Tryz.ntmps186;go_wp2;exact⟨rfl,rfl,rfl⟩
theorem finish_ok (base lo hi g:Nat)(id:Int)(s:WS)(w:World)(h:EnAt base lo hi g id w s)(hV:s.V=[])(h8: ¬8184<totalOf s.out)(p:Nat)(hp:s.place=p)(hpo:p<s.out.length)(hgp:(s.out.getD p (0,0)).2=13)(hol:s.out.length<=1000000):
  Calls Tryz.prog 186 #[.pointer (some ⟨g,0,none⟩)] w fun e w'=> ∃A m c,e= .returned (.slice A m c)/\SlP w' A m c (s.out.set p (totalOf s.out,13))/\(∀a,A=some a->base<=a.block)/\Below base w w':=by
 obtain⟨AV,nV,cV,AO,nO,cO,h1,h2⟩:=h.mem;have hn:nV=0:=by rw[<-h2.v.len,hV];rfl
 subst hn;have hlo:=h2.len;obtain⟨go,capo,hvo,hgo1,hgo2⟩:=h2.o.form (by omega);injection hvo with hvo1 _ hvo2
 subst hvo1;subst hvo2;have hoo:=h2.o;have hgl:base<=go:=(hoo.lt go rfl).1;have k1:w.cell? ⟨g,1,none⟩=some (.slice AV 0 cV):=by rw[h1.cell];rfl
 have k2:w.cell? ⟨g,2,none⟩=some (.slice (some ⟨go,0,none⟩) nO cO):=by rw[h1.cell];rfl
 have k3:w.cell? ⟨g,3,none⟩=some (.int .i64 (totalOf s.out)):=by rw[h1.cell];rfl
 have k4:w.cell? ⟨g,4,none⟩=some (.int .i64 (p:Int)):=by rw[h1.cell];show some (Value.int .i64 s.place)=_;rw[hp]
 have hca:w.cell? ⟨go,p*2,none⟩=some (.int .i64 (s.out.getD p (0,0)).1):=by
  rw[hoo.cellAt (p*2) (by omega)];exact(pairs_at s.out p hpo).1
 have hfa:w.frozen? ⟨go,p*2,none⟩=false:=hoo.frozenAt _;have hne:g≠go:=by
  have h:=own_apart hoo h1 (by decide);intro e;exact h (by rw[e];rfl)
 have hood:w.drew.ownsRow base 185 2 (.slice (some ⟨go,0,none⟩) nO cO) nO (pairs s.out):=hoo;have hfin:=hood.stored (p*2) (.int .i64 (totalOf s.out));rw[pairs_set,hgp]at hfin;have hhd:Has w.drew g 227 _:=h1.draw;have kd2:(w.drew.setCell ⟨go,p*2,none⟩ (.int .i64 (totalOf s.out))).cell? ⟨g,2,none⟩=some (.slice (some ⟨go,0,none⟩) nO cO):=by
  rw[(hhd.apart (p:=⟨go,p*2,none⟩) hne (.int .i64 (totalOf s.out))).cell];rfl
 have hcd:w.drew.cell? ⟨go,p*2,none⟩=some (.int .i64 (s.out.getD p (0,0)).1):=hca;have hfd:w.drew.frozen? ⟨go,p*2,none⟩=false:=hfa;have HFIN:=zq hfin;have HLN:Hid ((s.out.set p (totalOf s.out,13)).length=nO):=zq (by rw[List.length_set];exact hlo);have HBD:=zq (below_own (below_draws (Below.refl base w) 1) h.sz.1 hood (Nat.le_refl _) rfl hfin.2);have x3:(p:Int)<nO:=by omega
 have x4:(0:Int)<=p:=by omega
 have x5:p<=1000000:=by omega
 generalize (s.out.getD p (0,0)).1=y at*;generalize totalOf s.out=T at*;clear hfin hood hoo hhd h1 h2 h hV hgo1 hgo2 hp hgp hlo hpo;go_enter Tryz.func186,Tryz.ntmps186;go_wp2_with fail;go_still_tail 14,(by kernel_rfl)
 change wpList _ _ _ _ _ w.drew
 go_wp2;go_ret
 exact⟨some ⟨go,0,none⟩,nO,cO,rfl,⟨HLN.out,Sl.of_own HFIN.out.1⟩,fun a h=>by cases h;exact hgl,HBD.out⟩
theorem assert_errno (c:Int)(w:World):(Instr.typeAssert (.iface 39 (.int .i64 c)) 20 39 false).run Tryz.prog w= .ok (.int .i64 c) w:=by kernel_rfl
theorem catch_items (p:Addr)(x code:Int)(older:List PanicEntry)(w:World)(hc:w.cell? p=some (.int .i64 x))(hz:w.frozen? p=false):
  CallsD Tryz.prog 183 #[.pointer (some p)] (.panicking ({v:= .iface 39 (.int .i64 code),recovered:=false} ::older)) w fun e u' w'=>
   e= .returned (.tuple #[])/\u'= .panicking ({v:= .iface 39 (.int .i64 code),recovered:=true} ::older)/\w'=w.setCell p (.int .i64 code):=by
 refine callsD_of_wpS Tryz.func183 rfl fun c₀ cs hu=>?_;apply wpS_seq
 apply wpS_region
 simp[wpOpsS,go_sem,recoverD,hu,Tryz.ntmps183,Exit.thenS];apply wpS_seq
 apply wpS_region
 simp[wpOpsS,go_sem,Exit.thenS,Array.replicate];refine wpS_cond (t:=true) (by simp[Act.eval]) ?_;simp only[if_true];apply wpS_region
 simp[wpOpsS,go_sem,hc,hz,bodyPostS,results,Tryz.results183,assert_errno]
theorem idle_items (p:Addr)(w:World):
  CallsD Tryz.prog 183 #[.pointer (some p)] .returning w fun e u' w'=>e= .returned (.tuple #[])/\u'= .returning/\w'=w:=by
 refine callsD_of_wpS Tryz.func183 rfl fun c₀ cs hu=>?_;apply wpS_seq
 apply wpS_region
 simp[wpOpsS,go_sem,recoverD,hu,Tryz.ntmps183,Exit.thenS];apply wpS_seq
 apply wpS_region
 simp[wpOpsS,go_sem,Exit.thenS,Array.replicate];refine wpS_cond (t:=false) (by simp[Act.eval]) ?_;simp only[Bool.false_eq_true,if_false];refine wpS_of_wp (wp_skip ?_)
 cases c₀
 simp_all [bodyPostS,results,Tryz.results183]
end
section
open Go.RowKit
def ItemsPost (T:List (Int×Int)×Int)(w:World)(e:Ending)(w':World):Prop:=
 ∃A' m' c',e= .returned (.tuple #[.slice A' m' c',.int .i64 T.2])/\SlP w' A' m' c' T.1/\Below w.heap.size w w'
theorem opk_items (id:Int)(A:Option Addr)(n c:Nat)(V:List Int)(w:World)(hV:SlI w.heap.size w A n c V)(hn:n<=10000)(hwd:Wd w):
  Calls Tryz.prog 123 #[pkV id A n c] w (ItemsPost (itemsF id V) w):=by
 have hmf: ∀(fn:Fn) (first cap:Array Value) (w:World),(Instr.makeFunc fn first cap).run Tryz.prog w= .ok (.func fn first cap) w:=fun _ _ _ _=>rfl;have hb1:Below w.heap.size w ((w.alloc (.cells #[.int .i64 id,.slice A n c] 98)).alloc (.cells #[.int .i64 0] 39)):=(bA).alloc (by simp) _;have hsz:((w.alloc (.cells #[.int .i64 id,.slice A n c] 98)).alloc (.cells #[.int .i64 0] 39)).heap.size=w.heap.size+2:=by simp
 have hcp:Has ((w.alloc (.cells #[.int .i64 id,.slice A n c] 98)).alloc (.cells #[.int .i64 0] 39)) (w.heap.size+1) 39 #[.int .i64 0]:=by
  have h:=Has.made (w.alloc (.cells #[.int .i64 id,.slice A n c] 98)) 39 #[.int .i64 0];rw[show(w.alloc (.cells #[.int .i64 id,.slice A n c] 98)).heap.size=w.heap.size+1 by simp]at h;exact h
 obtain⟨wb,hwb⟩:=geZ ((w.alloc (.cells #[.int .i64 id,.slice A n c] 98)).alloc (.cells #[.int .i64 0] 39));rw[hwb]at hb1 hsz hcp;have hE:EnAt (w.heap.size+2) 0 0 (w.heap.size+2) id (wb.alloc (.cells #[.int .i64 id,.slice A n c,.slice none 0 0,.int .i64 0,.int .i64 0] 227)) ⟨V,false,[],[],[],0,0⟩:=by
  refine⟨Nat.le_refl _,.inr (Nat.zero_le _),⟨by simp[hsz],Nat.zero_le _⟩,rfl,A,n,c,none,0,0,?_,⟨?_,rfl,World.ownsRow_nil _ _ _ _,fun k h=>(by cases h),fun x h=>(by cases h)⟩⟩
  ·have h:=Has.made wb 227 #[.int .i64 id,.slice A n c,.slice none 0 0,.int .i64 0,.int .i64 0]
   rw[hsz]at h;exact h
  ·have h2:=hV.below (hb1.alloc hb1.size (.cells #[.int .i64 id,.slice A n c,.slice none 0 0,.int .i64 0,.int .i64 0] 227))
   exact⟨h2.len,h2.cap,h2.sl,fun hc a ha=>by have:=h2.low hc a ha;omega⟩
 have hbE:Below wb.heap.size wb (wb.alloc (.cells #[.int .i64 id,.slice A n c,.slice none 0 0,.int .i64 0,.int .i64 0] 227)):=bA;have hpk:=packet_enc (w.heap.size+2) (w.heap.size+2) id V _ hE ((hwd.under hb1).under hbE) (by have:=hwd.low;omega) (by rw[hV.len];omega);have HB1:=zq hb1;have HSZ:=zq hsz;have HCP:=zq (hcp.u hbE);have HPK:=zq hpk;obtain⟨wE,hwE⟩:=geZ (wb.alloc (.cells #[.int .i64 id,.slice A n c,.slice none 0 0,.int .i64 0,.int .i64 0] 227));rw[hwE]at HPK HCP hbE;have HBE:=zq hbE;have HWB:=zq hwb;have HWE:=zq hwE;have HVL:=zq hV.len;obtain⟨R,hR⟩:=geZ (runL (astOf id) 0 (startS id V));obtain⟨T,hT⟩:=geZ (itemsF id V);rw[hT];have hT2:=hT;unfold itemsF at hT2;rw[hR]at hT2 HPK;have HT:=zq hT2;have HR:=zq hR;clear hpk hE hb1 hsz hcp hV hbE hwb hwE hR hT hT2 hwd;unfold pkV;go_enter_defers Tryz.func123,Tryz.ntmps123
 go_wp2_with fail;rw[HWB.out,HWE.out]
 cases hk:knownB id
 ·have hT:=HT.out
  rw[if_pos hk]at hT;have HC:=zq (HPK.out.mono fun e w' (h:EncPost _ _ id R wE e w')=>And.intro (h.1.elim (fun h=>h.2) (fun h=>absurd h.1 (by rw[hk];decide))) h.2);subst hT;clear hk HT HPK;unfold panE at HC;refine HC.out.mono ?_;rintro e w3 ⟨rfl,hb3⟩;have hcp:=HCP.out.under hb3 (by omega);have q1:w3.cell? ⟨w.heap.size+1,0,none⟩=some (.int .i64 0):=by rw[hcp.cell];rfl
  have q2:=hcp.thaw 0;have q3:(w3.setCell ⟨w.heap.size+1,0,none⟩ (.int .i64 50)).cell? ⟨w.heap.size+1,0,none⟩=some (.int .i64 50):=by rw[(hcp.stored 0 _).cell];rfl
  have hbw:Below w.heap.size w w3:=HB1.out.trans ((HBE.out.mono HB1.out.size).trans (hb3.mono (by omega)));have HBW:=zq (hbw.trans (below_store (w:=w3) (base:=w.heap.size) (g:=w.heap.size+1) (by omega) hbw.size 0 (.int .i64 50)));clear hbw;refine leaves_cons (f:=183) (args:=#[.pointer (some ⟨w.heap.size+1,0,none⟩)]) (by simp) (by simp[go_sem]) ?_;refine(catch_items ⟨w.heap.size+1,0,none⟩ 0 50 [] w3 q1 q2).mono ?_;rintro e u' w'' ⟨rfl,rfl,rfl⟩;simp[Leaves,settle,results,Tryz.results123,go_sem,q3];exact⟨none,0,0,rfl,⟨rfl,sl_nil _ _⟩,HBW.out⟩
 ·have hT:=HT.out
  rw[if_neg (by rw[hk];decide)]at hT;by_cases he:R.e≠0
  ·rw[if_pos he]at hT
   have HC:=zq (HPK.out.mono fun e w' (h:EncPost _ _ id R wE e w')=>And.intro (h.1.elim (fun h=>absurd h.1 (by rw[hk];decide)) (fun h=>h.2.elim (fun h=>absurd h.1 he) (fun h=>h.2))) h.2);subst hT;clear hk HT HPK he;unfold panE at HC;refine HC.out.mono ?_;rintro e w3 ⟨rfl,hb3⟩;have hcp:=HCP.out.under hb3 (by omega);have q1:w3.cell? ⟨w.heap.size+1,0,none⟩=some (.int .i64 0):=by rw[hcp.cell];rfl
   have q2:=hcp.thaw 0;have q3:(w3.setCell ⟨w.heap.size+1,0,none⟩ (.int .i64 R.e)).cell? ⟨w.heap.size+1,0,none⟩=some (.int .i64 R.e):=by rw[(hcp.stored 0 _).cell];rfl
   have hbw:Below w.heap.size w w3:=HB1.out.trans ((HBE.out.mono HB1.out.size).trans (hb3.mono (by omega)));have HBW:=zq (hbw.trans (below_store (w:=w3) (base:=w.heap.size) (g:=w.heap.size+1) (by omega) hbw.size 0 (.int .i64 R.e)));clear hbw;refine leaves_cons (f:=183) (args:=#[.pointer (some ⟨w.heap.size+1,0,none⟩)]) (by simp) (by simp[go_sem]) ?_;refine(catch_items ⟨w.heap.size+1,0,none⟩ 0 R.e [] w3 q1 q2).mono ?_;rintro e u' w'' ⟨rfl,rfl,rfl⟩;simp[Leaves,settle,results,Tryz.results123,go_sem,q3];exact⟨none,0,0,rfl,⟨rfl,sl_nil _ _⟩,HBW.out⟩
  ·rw[if_neg he]at hT
   have he0:R.e=0:=by omega
   have HC:=zq (HPK.out.mono fun e w' (h:EncPost _ _ id R wE e w')=>And.intro (h.1.elim (fun h=>absurd h.1 (by rw[hk];decide)) (fun h=>h.2.elim (fun h=>h.2) (fun h=>absurd he0 h.1))) h.2);have HK:=zq hk;have HE:=zq he0;have HT2:=zq hT;clear hk HT HPK he hT he0;refine HC.out.mono ?_;rintro e w3 ⟨⟨rfl,lo,hi,hE3⟩,hb3⟩;by_cases hRV:R.V≠[]
   ·have hT:=HT2.out
    rw[if_pos hRV]at hT;have HF:=zq (finish_more _ lo hi _ id R w3 hE3 hRV);unfold panE at HF;subst hT;clear hRV HT2 hE3 HC;have hcp:=HCP.out.under hb3 (by omega);have q1:w3.cell? ⟨w.heap.size+1,0,none⟩=some (.int .i64 0):=by rw[hcp.cell];rfl
    have HB3:=zq hb3;clear hb3 hcp q1;go_wp2_with fail;refine HF.out.mono ?_;rintro e w4 ⟨rfl,rfl⟩;have hb3:=HB3.out;have hcp:=HCP.out.under hb3 (by omega);have q1:w3.cell? ⟨w.heap.size+1,0,none⟩=some (.int .i64 0):=by rw[hcp.cell];rfl
    have q2:=hcp.thaw 0;have q3:(w3.setCell ⟨w.heap.size+1,0,none⟩ (.int .i64 20)).cell? ⟨w.heap.size+1,0,none⟩=some (.int .i64 20):=by rw[(hcp.stored 0 _).cell];rfl
    have hbw:Below w.heap.size w w3:=HB1.out.trans ((HBE.out.mono HB1.out.size).trans (hb3.mono (by omega)));have HBW:=zq (hbw.trans (below_store (w:=w3) (base:=w.heap.size) (g:=w.heap.size+1) (by omega) hbw.size 0 (.int .i64 20)));clear hbw;refine leaves_cons (f:=183) (args:=#[.pointer (some ⟨w.heap.size+1,0,none⟩)]) (by simp) (by simp[go_sem]) ?_;refine(catch_items ⟨w.heap.size+1,0,none⟩ 0 20 [] w3 q1 q2).mono ?_;rintro e u' w'' ⟨rfl,rfl,rfl⟩;simp[Leaves,settle,results,Tryz.results123,go_sem,q3];exact⟨none,0,0,rfl,⟨rfl,sl_nil _ _⟩,HBW.out⟩
   ·have hT:=HT2.out
    rw[if_neg hRV]at hT;have hRV0:R.V=[]:=by simpa using hRV
    by_cases h8:8184<totalOf R.out
    ·rw[if_pos h8]at hT
     have HF:=zq (finish_long _ lo hi _ id R w3 hE3 hRV0 h8);unfold panE at HF;subst hT;have HB3:=zq hb3;clear hRV hRV0 h8 HT2 hE3 HC hb3;go_wp2_with fail;refine HF.out.mono ?_;rintro e w4 ⟨rfl,rfl⟩;have hb3:=HB3.out;have hcp:=HCP.out.under hb3 (by omega);have q1:w3.cell? ⟨w.heap.size+1,0,none⟩=some (.int .i64 0):=by rw[hcp.cell];rfl
     have q2:=hcp.thaw 0;have q3:(w3.setCell ⟨w.heap.size+1,0,none⟩ (.int .i64 2)).cell? ⟨w.heap.size+1,0,none⟩=some (.int .i64 2):=by rw[(hcp.stored 0 _).cell];rfl
     have hbw:Below w.heap.size w w3:=HB1.out.trans ((HBE.out.mono HB1.out.size).trans (hb3.mono (by omega)));have HBW:=zq (hbw.trans (below_store (w:=w3) (base:=w.heap.size) (g:=w.heap.size+1) (by omega) hbw.size 0 (.int .i64 2)));clear hbw;refine leaves_cons (f:=183) (args:=#[.pointer (some ⟨w.heap.size+1,0,none⟩)]) (by simp) (by simp[go_sem]) ?_;refine(catch_items ⟨w.heap.size+1,0,none⟩ 0 2 [] w3 q1 q2).mono ?_;rintro e u' w'' ⟨rfl,rfl,rfl⟩;simp[Leaves,settle,results,Tryz.results123,go_sem,q3];exact⟨none,0,0,rfl,⟨rfl,sl_nil _ _⟩,HBW.out⟩
    ·rw[if_neg h8]at hT
     obtain⟨D1,D2,R0,wh,_,hS⟩:=items_form (V:=V) HK.out (by rw[HR.out];exact HE.out);rw[HR.out]at hS;have hout:R.out=[(id,8)]++D1++(0,13)::D2:=by rw[hS]
     obtain⟨p,hp⟩:=geZ (([(id,(8:Int))]++D1).length);have hpl:R.place=p:=by rw[hS,<-hp]
     have hpo:p<R.out.length:=by rw[hout,List.length_append,hp,List.length_cons];omega
     have hgp:(R.out.getD p (0,0)).2=13:=by rw[hout,<-hp,getD_mid2]
     obtain⟨pre,a,post,sh⟩:=shape_of HK.out;have hinv:=inv_runL (astOf id) 0 (startS id V) 0 sh.good (by rw[sh.seven];exact inv_start (by rw[HVL.out];omega));rw[HR.out]at hinv;have HF:=zq (finish_ok _ lo hi _ id R w3 hE3 hRV0 h8 p hpl hpo hgp (by have:=hinv.o;omega));rw[hpl,Int.toNat_natCast]at hT;subst hT;have HB3:=zq hb3;clear hRV hRV0 h8 HT2 hE3 HC hb3 wh hS hout hp hpl hpo hgp sh hinv;go_wp2_with fail;refine HF.out.mono ?_;rintro e w4 ⟨A4,m4,c4,rfl,hsl,hal,hb4⟩;have hb34:=HB3.out.trans hb4;have hcp:=HCP.out.under hb34 (by omega);have q1:w4.cell? ⟨w.heap.size+1,0,none⟩=some (.int .i64 0):=by rw[hcp.cell];rfl
     have q2:=hcp.thaw 0;have q3:(w4.setCell ⟨w.heap.size+1,0,none⟩ (.int .i64 0)).cell? ⟨w.heap.size+1,0,none⟩=some (.int .i64 0):=by rw[(hcp.stored 0 _).cell];rfl
     have hbw:Below w.heap.size w w4:=HB1.out.trans ((HBE.out.mono HB1.out.size).trans (hb34.mono (by omega)));have hst:Below w4.heap.size w4 w4:=Below.refl _ _;have HBW:=zq (hbw.trans (below_store (w:=w4) (base:=w.heap.size) (g:=w.heap.size+1) (by omega) hbw.size 0 (.int .i64 0)));have HSL:Hid (SlP (w4.setCell ⟨w.heap.size+1,0,none⟩ (.int .i64 0)) A4 m4 c4 _):=zq ⟨hsl.len,hsl.sl.1,hsl.sl.2.1,fun ad ha j u hu=>by
      have h0:=hsl.sl.2.2 ad ha j u hu;rw[World.cell?_setCell_other _ _ _ _ (fun e=>by
       have h1:=congrArg Addr.block e;rw[add_blk]at h1;have h2:=hal ad ha;simp only at h1;omega)]
      exact h0⟩
     clear hbw hb34 hcp hsl hb4 hst HF hal;go_wp2;refine leaves_cons (f:=183) (args:=#[.pointer (some ⟨w.heap.size+1,0,none⟩)]) (by simp) (by simp[go_sem]) ?_;refine(idle_items ⟨w.heap.size+1,0,none⟩ _).mono ?_;rintro e u' w'' ⟨rfl,rfl,rfl⟩;simp[Leaves,settle,results,Tryz.results123,go_sem,q3];exact⟨A4,m4,c4,rfl,HSL.out,HBW.out⟩
end
section
open Go.RowKit
open Go.Great
def readB17 (l:List PkE):Bool:=match l with
 |[]=>false
 |p::_=>p.id==15 &&l.all fun p=>itemsOk (p.id,p.V)
theorem goes_met17 (path:List St3)(e:Int)(r:Bool):goesB path e=metS path [⟨e,r⟩]:=by
 unfold goesB metS;simp
theorem last_at17b {path:List St3}{m:Nat}{y:St3}(hm:path.length=m+1)(hy:path[m]?=some y):lastS path=y:=by
 unfold lastS;rw[List.getLastD_eq_getLast?,List.getLast?_eq_getElem?,hm];show(path[m]?).getD _=y
 rw[hy]
 rfl
theorem SlO.link17 {w:World}{A:Option Addr}{n c:Nat}{l:List Lk17}(h:SlO lkC17 3 w A n c l){j:Nat}{x:Lk17}(hx:l[j]?=some x):
  ∃b off,A=some ⟨b,off,none⟩/\w.cell? ⟨b,off+j*3,none⟩=some (.bool x.told)/\w.cell? ⟨b,off+j*3+1,none⟩=some (.int .i64 x.group)/\w.cell? ⟨b,off+j*3+2,none⟩=some (.bool x.rev):=by
 obtain⟨b,off,e,hc⟩:=h.at_ (fun _=>rfl) (by decide) hx;exact⟨b,off,e,hc 0 _ rfl,hc 1 _ rfl,hc 2 _ rfl⟩
theorem opar1_any (id:Int)(A:Option Addr)(n c:Nat)(V:List Int)(w:World)(hV:SlI w.heap.size w A n c V)(hn:n<=10000)(hwd:Wd w):Calls Tryz.prog 122 #[.agg #[.int .i64 id,.slice A n c]] w fun e w'=>e= .returned (.bool (!itemsOk (id,V)))/\Below w.heap.size w w':=by
 obtain⟨wa,hwa,hbwa,HWA,HBWA,h0⟩:=bx1Z w 98 #[.int .i64 id,.slice A n c];have HI:=zq (opk_items id A n c V wa (sliUnder hV hbwa) hn (hwd.under hbwa));have HP:=zq h0;obtain⟨q,hq⟩:=geZ ((itemsF id V).2);have HQ:=zq (show itemsOk (id,V)=decide (q=0)from by rw[<-hq];rfl);rw[HQ.out];unfold ItemsPost at HI;rw[hq]at HI;clear hwa hbwa h0 hV hwd hq hn;go_enter Tryz.func122,Tryz.ntmps122;go_upto_region 1 with fail;rw[HWA.out];clear HWA;go_wp2_with (with_reducible refine ldZ 6 HP.out ?_);refine HI.out.mono ?_;rintro e_ w1 ⟨B,m,d,rfl,_,hb1⟩;have HB1:=tB HBWA hb1;clear hb1 HI HP;by_cases z:q=0
 ·have z1:(q !=0)=false:=by simp[z]
  have z2:decide (q=0)=true:=decide_eq_true z;have HZ:=zq (show(!decide (q=0))=false from by rw[decide_eq_true z];rfl);clear z;go_wp2;go_ret
  exact⟨by rw[HZ.out];rfl,HB1.out⟩
 ·have z1:(q !=0)=true:=by simp[z]
  have HZ:=zq (show(!decide (q=0))=true from by rw[decide_eq_false z];rfl);clear z;go_wp2;go_ret
  exact⟨by rw[HZ.out];rfl,HB1.out⟩
theorem oix_ar17 (p:PkE->Bool)(l:List PkE)(A:Option Addr)(n c:Nat)(w:World)(hs:SlK w A n c l)(hbig:n<=1048576)
  (HE:Hid (∀(x:PkE),x∈l-> ∀W,Below w.heap.size w W->Calls Tryz.prog 122 #[.agg #[.int .i64 x.id,.slice x.A x.n x.c]] W fun e w'=>e= .returned (.bool (p x))/\Below W.heap.size W w')):
  Calls Tryz.prog 128 #[.slice A n c,.func (.func 122) #[] #[]] w fun e w'=>e= .returned (.int .i64 (idxL p l))/\Below w.heap.size w w':=by
 have HN:Hid (l.length=n):=zq hs.len;have HW:=zq hs;clear hs;have x0:(0:Int)<=n:=by omega
 obtain⟨R,hR⟩:=geZ (idxL p l);have HR:=zq hR;rw[hR];clear hR;go_enter Tryz.func128,Tryz.ntmps128;go_wp2;go_loopg [8] n (fun kk v wl=> ∃j:Nat,j<=n/\n-j<=kk/\v= .int .i64 j/\Hid (∀i x,i<j->l[i]?=some x->p x=false)/\Hid (Below w.heap.size w wl))
 case atStart=>exact⟨0,by omega,by omega,rfl,zq fun i x h=>absurd h (by omega),zq (Below.refl _ _)⟩
 obtain⟨j,hj,hjk,rfl,HNO,HBL⟩:=hrel;by_cases hlt:j<n
 ·obtain⟨x,hx⟩:=glZ l (j) (by rw[HN.out];omega)
  obtain⟨bk,off,rfl,d0,d1⟩:=(HW.out.under HBL.out).pk17 hx;have HX:=zq hx;have y0:(0:Int)<=j:=by omega
  have y1:(j:Int)<n:=by omega
  have HC:=zq (HE.out x (List.mem_of_getElem? HX.out) wr HBL.out);clear hx;generalize hb:p x=b at*;have HBE:=zq hb;clear hb
  cases b with
  |true=>
   have HF:Hid (R=j):=zq (by rw[<-HR.out];exact idx_hit HX.out HBE.out HNO.out);go_upto_region 4 with fail;go_wp2_with fail;refine HC.out.mono ?_;rintro e w1 ⟨rfl,hb1⟩;have HB1:=tB HBL hb1;clear hb1 d0 d1 HBE HNO;go_wp2;go_ret
   exact⟨by rw[HF.out];rfl,HB1.out⟩
  |false=>
   go_upto_region 4 with fail;go_wp2_with fail;refine HC.out.mono ?_;rintro e w1 ⟨rfl,hb1⟩;have HB1:=tB HBL hb1;have HN2:Hid (∀i y,i<j+1->l[i]?=some y->p y=false):=zq fun i y hi hy=>by
    by_cases h:i=j
    ·subst h;rw[HX.out]at hy;cases hy;exact HBE.out
    ·exact HNO.out i y (by omega) hy
   clear hb1 d0 d1 HBE HNO;go_wp2;go_roundg (gk-1)
   case measure=>omega
   case rel=>exact⟨j+1,by omega,by omega,by go_num,HN2,HB1⟩
 ·have y1: ¬(j:Int)<n:=by omega
  have HF:Hid (R= -1):=zq (by rw[<-HR.out];exact idx_miss fun i y hi hy=>HNO.out i y (by have:=HN.out;omega) hy);go_wp2;go_ret
  exact⟨by rw[HF.out];rfl,HBL.out⟩
theorem oct_ar17 (p:PkE->Bool)(l:List PkE)(A:Option Addr)(n c:Nat)(w:World)(hs:SlK w A n c l)(hbig:n<=1048576)
  (HE:Hid (∀(x:PkE),x∈l-> ∀W,Below w.heap.size w W->Calls Tryz.prog 122 #[.agg #[.int .i64 x.id,.slice x.A x.n x.c]] W fun e w'=>e= .returned (.bool (p x))/\Below W.heap.size W w')):
  Calls Tryz.prog 121 #[.slice A n c,.func (.func 122) #[] #[]] w fun e w'=>e= .returned (.bool (l.any p))/\Below w.heap.size w w':=by
 have H:=zq (oix_ar17 p l A n c w hs hbig HE);clear hs HE;rw[<-idx_nonneg];generalize idxL p l=R at*;go_enter Tryz.func121,Tryz.ntmps121;go_wp2_with fail;refine H.out.mono ?_;rintro e w1 ⟨rfl,hb1⟩;have HB1:=zq hb1;clear hb1 H;go_wp2;go_ret
 exact⟨rfl,HB1.out⟩
theorem opread_ok17 (l:List PkE)(A:Option Addr)(n c:Nat)(w:World)(hs:SlK w A n c l)(hn:n<=30)(hv: ∀p∈l,p.n<=3000)(hwd:Wd w):
  Calls Tryz.prog 63 #[.slice A n c] w fun r w'=>r= .returned (.bool (readB17 l))/\Below w.heap.size w w':=by
 have HE:Hid (∀(x:PkE),x∈l-> ∀W,Below w.heap.size w W->Calls Tryz.prog 122 #[.agg #[.int .i64 x.id,.slice x.A x.n x.c]] W fun e w'=>e= .returned (.bool (!itemsOk (x.id,x.V)))/\Below W.heap.size W w'):=zq fun x hx W hW=>opar1_any x.id x.A x.n x.c x.V W (sliUnder (hs.each x hx) hW) (by have:=hv x hx;omega) (hwd.under hW);have HCT:=zq (oct_ar17 (fun x=>!itemsOk (x.id,x.V)) l A n c w hs (by omega) HE);obtain⟨R,hR⟩:=geZ (readB17 l);rw[hR]
 cases l with
 |nil=>
  obtain rfl:n=0:=hs.len.symm;have HF:=zq (show R=false from hR.symm);clear hs hn hv hwd HE HCT hR;go_enter Tryz.func63,Tryz.ntmps63;go_wp2;go_ret
  exact⟨by rw[HF.out];rfl,Below.refl _ _⟩
 |cons p r=>
  obtain⟨bk,off,hA,d0,d1⟩:=hs.pk17 (j:=0) (x:=p) rfl;subst hA;have d0':w.cell? ⟨bk,off,none⟩=some (.int .i64 p.id):=by rw[show off=off+0*2 by omega];exact d0
  obtain⟨m,hm⟩: ∃m,n=m+1:=⟨r.length,by rw[<-hs.len];rfl⟩
  subst hm;have u1:(0:Int)<((m+1:Nat):Int):=by omega
  have u2: ¬((m+1:Nat):Int)=0:=by omega
  have u3:(((m+1:Nat):Int)==0)=false:=by simp;omega
  obtain⟨pi,hpi⟩: ∃q,p.id=q:=⟨_,rfl⟩
  rw[hpi]at d0 d0';by_cases z:pi=15;rotate_left
  ·have z1:(pi !=15)=true:=by simp[z]
   have HF:=zq (show R=false from by rw[<-hR];unfold readB17;dsimp only;rw[hpi,beq_eq_false_iff_ne.2 z];rfl);clear hs hn hv hwd HE HCT hR hpi z d1;go_enter Tryz.func63,Tryz.ntmps63;go_wp2;go_ret
   exact⟨by rw[HF.out];rfl,Below.refl _ _⟩
  ·subst z
   have z1:((15:Int) !=15)=false:=rfl;obtain⟨q,hq⟩:=geZ ((p::r).any (fun x=>!itemsOk (x.id,x.V)));rw[hq]at HCT;have HF:=zq (show R=!q from by rw[<-hR,<-hq];unfold readB17;dsimp only;rw[hpi];simp only[beq_self_eq_true,Bool.true_and,List.not_any_eq_all_not,Bool.not_not]);clear hs hn hv hwd HE hR hpi hq d1;go_enter Tryz.func63,Tryz.ntmps63;go_wp2_with fail;refine HCT.out.mono ?_;rintro e_ w1 ⟨rfl,hb1⟩;have HB1:=zq hb1;clear hb1 HCT;go_wp2;go_ret
   exact⟨by rw[HF.out];rfl,HB1.out⟩
theorem opfollow_any (t:Tp3)(a:TpA)(s0:St3)(ks:List Lk17)(A:Option Addr)(n c:Nat)(w:World)(ht:TopR w t a)(hl:lightT t=true)(hck:checkE t=0)(he0:edgeB t s0.edge=true)(hs:SlO lkC17 3 w A n c ks)(hn:n<=32):
  Calls Tryz.prog 65 #[.agg (tpC t a),.agg (stA13 s0),.slice A n c] w fun r w'=> ∃(B:Option Addr) (m d:Nat),r= .returned (.tuple #[.slice B m d,.int .i64 (followE t [s0] ks).2])/\OwR stC 2 30 w.heap.size w' B m d (followE t [s0] ks).1/\Below w.heap.size w w':=by
 have HBA:=zq (fun W (hW:Below w.heap.size w W) id=>otp_bal t a id W (ht.under hW) hl);have HAF:=zq (fun W (hW:Below w.heap.size w W) s=>otp_after t a s W (ht.under hW) hl);obtain⟨F,hF⟩:=geZ ((followE t [s0] ks));rw[hF];have HF:=zq hF;have HCK:=zq hck;have HLT:=zq hl;have HKN:=zq hs.1;have HNB:=zq hn;have HE0:=zq he0;clear hF;obtain⟨se,sr⟩:=s0;unfold stA13;dsimp only;obtain⟨wa,hwa,hbwa,HWA,HBWA,h0,h1⟩:=bx2Z w 27 (tpC t a) 30 #[.int .i64 se,.bool sr];have H0:=zH h0;have H1:=zq h1;have HKS:=zq (fun W (hW:Below wa.heap.size wa W)=>(hs.under hbwa).under hW);have HUP:=zq (fun W (hW:Below wa.heap.size wa W)=>HBWA.out.trans (hW.mono HBWA.out.size));obtain⟨wb,hwb⟩: ∃u,wa.alloc (.cells #[.int .i64 se,.bool sr] 30)=u:=⟨_,rfl⟩
 have hbb:Below wa.heap.size wa wb:=by rw[<-hwb];exact bA
 have HO0:=zq (show OwR stC 2 30 wa.heap.size wb (some ⟨wa.heap.size,0,none⟩) 1 1 [⟨se,sr⟩]from by rw[<-hwb];exact⟨World.ownsRow_lit (base:=wa.heap.size) (e:=30) (size:=2) wa #[.int .i64 se,.bool sr] 1 (Nat.le_refl _) (by unfold maxLen;omega) rfl,rfl⟩);have HB0:=zq hbb;have HWB:=zq hwb;clear hwa hbwa h0 h1 ht hl hck he0 hs hwb hbb;go_enter Tryz.func65,Tryz.ntmps65;go_upto_region 1 with fail;rw[HWA.out];clear HWA;go_upto_region 2 with(with_reducible refine ldZ 15 H1.out ?_)
 rw[HWB.out];clear HWB H1;go_wp2;go_loopg [8,19] n (fun kk v8 v19 wl=> ∃(i:Nat) (B:Option Addr) (m d:Nat) (path:List St3),i<=n/\n-i<=kk/\v19= .int .i64 i/\v8= .slice B (m+1) d/\Hid (OwR stC 2 30 wa.heap.size wl B (m+1) d path)/\Hid (m+1<=24)/\Hid (∀s∈path,edgeB t s.edge=true)/\Hid (followE t path (ks.drop i)=F)/\Hid (Below wa.heap.size wa wl))
 case atStart=>exact⟨0,_,0,1,[⟨se,sr⟩],by omega,by omega,rfl,rfl,HO0,zq (by omega),zq (fun s hs=>by rw[List.mem_singleton]at hs;subst hs;exact HE0.out),zq (by rw[List.drop_zero];exact HF.out),HB0⟩
 clear HO0 HB0 HF HE0;obtain⟨i,B,m,d,path,hi,hik,rfl,rfl,HO,HM,HED,HFO,HB⟩:=hrel;obtain⟨k1,hk1⟩: ∃k1,k1=gk:=⟨_,rfl⟩
 subst hk1;obtain⟨wv,hwv⟩: ∃wv,wv=wr:=⟨_,rfl⟩
 subst hwv;by_cases hlt:i<n;rotate_left
 ·obtain rfl:i=n:=by omega
  have y1: ¬(i:Int)<i:=by omega
  have HFF:=zq (show F=(path,0)from by rw[<-HFO.out,List.drop_of_length_le (by rw[HKN.out];exact Nat.le_refl _)];rfl);go_wp2;go_ret2
  exact⟨B,m+1,d,by rw[HFF.out];rfl,by rw[HFF.out];exact HO.out.to_base HBWA.out.size,HUP.out _ HB.out⟩
 ·obtain⟨x,hx⟩:=glZ ks (i) (by rw[HKN.out];exact hlt)
  obtain⟨bk,off,rfl,d0,d1,d2⟩:=(HKS.out wv HB.out).link17 hx;have hfo:=HFO.out;rw[drop_at15 hx,followE]at hfo;obtain⟨xt,xg,xr⟩:=x;dsimp only at d0 d1 d2 hfo;have HFO:=zq hfo;have x1:(i:Int)<n:=by omega
  have x2:(0:Int)<=i:=by omega
  have HIN:=zq (show i<n/\n-i<=k1 from⟨hlt,hik⟩);clear hx hfo hi hik hlt;obtain⟨w1,hw1⟩: ∃u,wv.alloc (.cells #[.bool xt,.int .i64 xg,.bool xr] 180)=u:=⟨_,rfl⟩
  have hb1:Below wv.heap.size wv w1:=by rw[<-hw1];exact bA
  have hH1:Has w1 wv.heap.size 180 #[.bool xt,.int .i64 xg,.bool xr]:=by rw[<-hw1];exact Has.made _ _ _
  have HW1:=zq hw1;obtain⟨g1,hg1⟩: ∃g,wv.heap.size=g:=⟨_,rfl⟩
  have HG1:=zq hg1;rw[hg1]at hH1;have HO1:=zq (HO.out.under hb1);have HB1:=tB HB hb1;have HK1:=zq hH1;clear hw1 hb1 hg1 hH1;go_upto_region 5 with fail;rw[HW1.out];simp only[HG1.out];clear HW1 HG1 d0 d1 d2 HO HB;have e1:w1.cell? ⟨g1,1,none⟩=some (.int .i64 xg):=HK1.out.cell 1;have HBX:=zq (HBA.out w1 (HUP.out _ HB1.out) xg);obtain⟨bq,hbq⟩: ∃q,balR t xg=q:=⟨_,rfl⟩
  obtain⟨ok,hok⟩: ∃q,(balF t xg).isSome=q:=⟨_,rfl⟩
  rw[hbq,hok]at HBX;have HBQ:=zq hbq;have HOK:=zq hok;obtain⟨bi,be,ba⟩:=bq;unfold blA at HBX;dsimp only at HBX;clear hbq hok;go_wp2_with (with_reducible refine ldZ 24 (H0.out w1 HB1.out) ?_);refine HBX.out.mono ?_;rintro e_ w2 ⟨rfl,hb2⟩;have HO2:=zq (HO1.out.under hb2);have HB2:=tB HB1 hb2;have HK2:=uH HK1 hb2;clear hb2 HBX e1 HO1 HB1 HK1;obtain⟨w3,hw3⟩: ∃u,w2.alloc (.cells #[.int .i64 bi,.int .i64 be,.int .i64 ba] 151)=u:=⟨_,rfl⟩
  have hb3:Below w2.heap.size w2 w3:=by rw[<-hw3];exact bA
  have hH3:Has w3 w2.heap.size 151 #[.int .i64 bi,.int .i64 be,.int .i64 ba]:=by rw[<-hw3];exact Has.made _ _ _
  have HW3:=zq hw3;obtain⟨g2,hg2⟩: ∃g,w2.heap.size=g:=⟨_,rfl⟩
  have HG2:=zq hg2;rw[hg2]at hH3;have HO3:=zq (HO2.out.under hb3);have HB3:=tB HB2 hb3;have HK3:=uH HK2 hb3;have HY3:=zq hH3;clear hw3 hb3 hg2 hH3 HO2 HB2 HK2;go_upto_region 6 with fail;rw[HW3.out];simp only[HG2.out];clear HW3 HG2;obtain⟨y,hy⟩:=glZ path (m) (by rw[HO3.out.2];omega);have HLY:=zq (last_at17b HO3.out.2 hy);have HYE:=zq (HED.out y (List.mem_of_getElem? hy));obtain⟨gp,hgp,_,_⟩:=HO3.out.some (by omega);subst hgp;have p0:=HO3.out.sl.at_cell (fun _=>rfl) (by decide) hy (i:=0) rfl;have p1:=HO3.out.sl.at_cell (fun _=>rfl) (by decide) hy (i:=1) rfl;simp only[Nat.zero_add,Nat.add_zero]at p0 p1;obtain⟨ye,yr⟩:=y;dsimp only at p0 p1 HYE;have hm24:=HM.out;have hm23:m<24:=by omega
  have v1:(0:Int)<=(m:Int):=by omega
  have v2:(m:Int)<((m+1:Nat):Int):=by omega
  clear hy;obtain⟨w4,hw4⟩: ∃u,w3.alloc (.cells #[.int .i64 ye,.bool yr] 30)=u:=⟨_,rfl⟩
  have hb4:Below w3.heap.size w3 w4:=by rw[<-hw4];exact bA
  have hH4:Has w4 w3.heap.size 30 #[.int .i64 ye,.bool yr]:=by rw[<-hw4];exact Has.made _ _ _
  have HW4:=zq hw4;obtain⟨g3,hg3⟩: ∃g,w3.heap.size=g:=⟨_,rfl⟩
  have HG3:=zq hg3;rw[hg3]at hH4;have HO4:=zq (HO3.out.under hb4);have HB4:=tB HB3 hb4;have HK4:=uH HK3 hb4;have HY4:=uH HY3 hb4;have HL4:=zq hH4;clear hw4 hb4 hg3 hH4 HO3 HB3 HK3 HY3;go_upto_region 7 with fail;rw[HW4.out];simp only[HG3.out];clear HW4 HG3 p0 p1 v1 v2 hm24;have y1:w4.cell? ⟨g2,1,none⟩=some (.int .i64 be):=HY4.out.cell 1;have k2:w4.cell? ⟨g1,2,none⟩=some (.bool xr):=HK4.out.cell 2;obtain⟨w5,hw5⟩: ∃u,w4.alloc (.cells #[.int .i64 be,.bool xr] 30)=u:=⟨_,rfl⟩
  have hb5:Below w4.heap.size w4 w5:=by rw[<-hw5];exact bA
  have hH5:Has w5 w4.heap.size 30 #[.int .i64 be,.bool xr]:=by rw[<-hw5];exact Has.made _ _ _
  have HW5:=zq hw5;obtain⟨g4,hg4⟩: ∃g,w4.heap.size=g:=⟨_,rfl⟩
  have HG4:=zq hg4;rw[hg4]at hH5;have HO5:=zq (HO4.out.under hb5);have HB5:=tB HB4 hb5;have HK5:=uH HK4 hb5;have HY5:=uH HY4 hb5;have HL5:=uH HL4 hb5;have HX5:=zq hH5;clear hw5 hb5 hg4 hH5 HO4 HB4 HK4 HY4 HL4;go_upto_region 8 with fail;rw[HW5.out];simp only[HG4.out];clear HW5 HG4 y1 k2;have k0:w5.cell? ⟨g1,0,none⟩=some (.bool xt):=HK5.out.cell 0
  cases xt with
  |false=>
   have HFF:=zq (show F=([],20)from by rw[<-HFO.out,if_pos rfl]);clear HFO;go_wp2;go_ret2
   exact⟨none,0,0,by rw[HFF.out];rfl,by rw[HFF.out];exact OwR.nil _ _ _ _ _,HUP.out _ HB5.out⟩
  |true=>
   have HFO:=zq (by have h_:=HFO.out;rw[if_neg (by decide)]at h_;exact h_);go_upto_region 10 with fail;clear k0
   cases hbf:balF t xg with
   |none=>
    have HFF:=zq (show F=([],4)from by rw[<-HFO.out,hbf]);obtain rfl:ok=false:=by rw[<-HOK.out,hbf];rfl
    clear HFO hbf;go_wp2;go_ret2
    exact⟨none,0,0,by rw[HFF.out];rfl,by rw[HFF.out];exact OwR.nil _ _ _ _ _,HUP.out _ HB5.out⟩
   |some bz=>
    obtain rfl:ok=true:=by rw[<-HOK.out,hbf];rfl
    obtain rfl:bz=⟨bi,be,ba⟩:=by rw[<-HBQ.out];unfold balR;rw[hbf];rfl
    have HBE:=zq (show edgeB t be=true from(bal_find HCK.out (List.mem_of_find?_eq_some hbf)).2.2.1);have HFO:=zq (by have h_:=HFO.out;rw[hbf]at h_;dsimp only at h_;rw[HLY.out]at h_;exact h_);dsimp only at HFO;clear hbf HBQ HOK;have y1:w5.cell? ⟨g2,1,none⟩=some (.int .i64 be):=HY5.out.cell 1;have l0:w5.cell? ⟨g3,0,none⟩=some (.int .i64 ye):=HL5.out.cell 0;go_upto_region 12 with fail;by_cases z:be=ye
    ·have z1:(be==ye)=true:=by simp[z]
     have HFO:=zq (show followE t path (ks.drop (i+1))=F from by have h_:=HFO.out;rw[if_pos z]at h_;exact h_);clear z;go_wp2;go_roundg (k1-1)
     case measure=>have:=HIN.out;omega
     case rel=>exact⟨i+1,_,m,d,path,by have:=HIN.out;omega,by have:=HIN.out;omega,by first|go_num|(rw[IntWalk.wrap64_in _ (by have h1_:=HIN.out;have h2_:=HNB.out;omega)];go_num),rfl,HO5,HM,HED,HFO,HB5⟩
    have z1:(be==ye)=false:=by simp[z]
    have HFO:=zq (by have h_:=HFO.out;rw[if_neg z]at h_;exact h_);clear z;have HAX:=zq (fun W (hW:Below wa.heap.size wa W)=>HAF.out W (HUP.out _ hW) ⟨ye,yr⟩);unfold stA13 at HAX;dsimp only at HAX;have HCN:=zq (fun W A c (h_:SlO stC 2 W A (afterL t ⟨ye,yr⟩).length c (afterL t ⟨ye,yr⟩))=>ocons_any (afterL t ⟨ye,yr⟩) ⟨be,xr⟩ A (afterL t ⟨ye,yr⟩).length c W h_ (after_le13 t _ (light_nums13 HLT.out).1));unfold stA13 at HCN;dsimp only at HCN;obtain⟨mt,hmt⟩: ∃q,mayT t ⟨ye,yr⟩ ⟨be,xr⟩=q:=⟨_,rfl⟩
    have HMT:=zq (show amongB (afterL t ⟨ye,yr⟩) ⟨be,xr⟩=mt from by rw[<-hmt,Bool.eq_iff_iff,among_iff,after_mem];exact⟨fun g_=>g_.2.2,fun g_=>⟨HYE.out,HBE.out,g_⟩⟩);rw[hmt]at HFO;rw[HMT.out]at HCN;clear hmt;go_upto_region 13 with fail;clear z1 y1 l0;refine wp_region_held_drew (S:=(fun W_=>(Has W_ (w.heap.size) 27 (tpC t a))/\(Has W_ (g3) 30 #[.int .i64 ye,.bool yr])/\(Has W_ (g4) 30 #[.int .i64 be,.bool xr])/\(Has W_ (g2) 151 #[.int .i64 bi,.int .i64 be,.int .i64 ba])/\(Below wa.heap.size wa W_))) (by kernel_rfl) ?_ (fun hHeld=>?_)
    ·exact⟨(H0.out _ HB5.out).draw,HL5.out.draw,HX5.out.draw,HY5.out.draw,below_dr11 HB5.out⟩
    have HO5:=zq HO5.out.draw1;refine tlZ 0 55 w.heap.size (tpC t a) (fun _ ⟨h_,_,_,_,_⟩=>h_) (h:=?_);simp only[lyZ];refine tlZ 1 56 g3 #[.int .i64 ye,.bool yr] (fun _ ⟨_,h_,_,_,_⟩=>h_) (h:=?_);simp only[lyZ];refine tlZ 3 58 g4 #[.int .i64 be,.bool xr] (fun _ ⟨_,_,h_,_,_⟩=>h_) (h:=?_);simp only[lyZ];refine aoZ 2 (some 57) (fun K hK=>?_);go_simp;obtain⟨s0,s1,s2,s3,s4⟩:=hHeld;refine(HAX.out _ s4).mono ?_;rintro e_ q1 ⟨AA,ac,rfl,hsa_,hb_⟩;have HO5:=zq (HO5.out.under hb_);have HSA:=zq (hsa_);go_wp2_with fail;refine hK.out _ _ ?_ (fun hHeld=>?_)
    ·exact⟨s0.u hb_,s1.u hb_,s2.u hb_,s3.u hb_,bu s4 hb_⟩
    clear hK K s0 s1 s2 s3 s4
    try simp only[lyZ]
    refine aoZ 4 (some 59) (fun K hK=>?_);go_simp;obtain⟨s0,s1,s2,s3,s4⟩:=hHeld;refine(HCN.out _ AA ac HSA.out).mono ?_;rintro e_ q2 ⟨rfl,hb2_⟩;have HO5:=zq (HO5.out.under hb2_);have HSA:=zq (HSA.out.under hb2_);go_wp2_with fail;refine hK.out _ _ ?_ (fun hHeld=>?_)
    ·exact⟨s0.u hb2_,s1.u hb2_,s2.u hb2_,s3.u hb2_,bu s4 hb2_⟩
    clear hK K s0 s1 s2 s3 s4
    try simp only[lyZ]
    refine tkZ 5 60 (h:=?_);simp only[lyZ];refine tkZ 6 54 (h:=?_);simp only[lyZ];refine dnZ ?_;obtain⟨w6,hw6⟩: ∃u,u=q2:=⟨_,rfl⟩
    subst hw6;have HX6:=zq hHeld.2.2.1;have HY6:=zq hHeld.2.2.2.1;have HB6:=zq hHeld.2.2.2.2;have HO6:=zq HO5.out;clear hHeld HAX HCN HO5
    cases mt with
    |false=>
     have HFF:=zq (show F=([],141)from by rw[<-HFO.out,if_pos rfl]);clear HFO;go_wp2;go_ret2
     exact⟨none,0,0,by rw[HFF.out];rfl,by rw[HFF.out];exact OwR.nil _ _ _ _ _,HUP.out _ HB6.out⟩
    |true=>
     have HFO:=zq (by have h_:=HFO.out;rw[if_neg (by decide)]at h_;exact h_);have HGO:=zq (opgoes_any path be (some ⟨gp,0,none⟩) (m+1) d w6 HO6.out.sl (by have:=HM.out;omega));rw[goes_met17 path be xr]at HGO;obtain⟨gm,hgm⟩: ∃q,metS path [⟨be,xr⟩]=q:=⟨_,rfl⟩
     rw[hgm]at HGO HFO;clear hgm;have y1:w6.cell? ⟨g2,1,none⟩=some (.int .i64 be):=HY6.out.cell 1;by_cases z:m=23
     ·have z1:(((m+1:Nat):Int)==24)=true:=by simp;omega
      have z2:((m+1:Nat):Int)=24:=by omega
      have z3:(m:Int)+1=24:=by omega
      have HFF:=zq (show F=([],2)from by rw[<-HFO.out,if_pos (Or.inr (by rw[HO6.out.2];omega))]);clear HFO;have HZ:=zq z;clear z;go_wp2;go_ret2
      exact⟨none,0,0,by rw[HFF.out];rfl,by rw[HFF.out];exact OwR.nil _ _ _ _ _,HUP.out _ HB6.out⟩
     have z1:(((m+1:Nat):Int)==24)=false:=by simp;omega
     have z2: ¬((m+1:Nat):Int)=24:=by omega
     have z3: ¬(m:Int)+1=24:=by omega
     have hm22:m<23:=by have:=HM.out;omega
     go_upto_region 15 with fail;go_wp2_with fail;refine HGO.out.mono ?_;rintro e_ w7 ⟨rfl,hb7⟩;have HB7:=tB HB6 hb7;have HO7:=zq (HO6.out.under hb7);have HX7:=uH HX6 hb7;clear hb7 HGO y1 HB6 HO6 HX6 HY6
     cases gm with
     |true=>
      have HFF:=zq (show F=([],2)from by rw[<-HFO.out,if_pos (Or.inl rfl)]);clear HFO;go_wp2;go_ret2
      exact⟨none,0,0,by rw[HFF.out];rfl,by rw[HFF.out];exact OwR.nil _ _ _ _ _,HUP.out _ HB7.out⟩
     |false=>
      have HFO:=zq (show followE t (path++[⟨be,xr⟩]) (ks.drop (i+1))=F from by have h_:=HFO.out;rw[if_neg (by rintro(h2_|h2_);exact absurd h2_ (by decide);rw[HO7.out.2]at h2_;omega)]at h_;exact h_);have HED2:=zq (show∀s∈path++[⟨be,xr⟩],edgeB t s.edge=true from fun s hs=>by rcases List.mem_append.1 hs with h_|h_;exact HED.out s h_;rw[List.mem_singleton]at h_;subst h_;exact HBE.out);clear z1 z2 z3 z;obtain⟨hO,hSL,h1,hBD⟩:=pourR 16 (HO7.out.under ((Below.refl _ _).alloc (Nat.le_refl _) (.cells #[.int .i64 be,.bool xr] 30))) (⟨rfl,sl_hasR (Has.made _ _ _) rfl⟩:SlO stC 2 (w7.alloc (.cells #[.int .i64 be,.bool xr] 30)) (some ⟨w7.heap.size,0,none⟩) 1 1 [⟨be,xr⟩]) one_st17 (Nat.le_trans HB7.out.size (by simp)) (by omega) (by omega);go_wp2_with (first|(with_reducible refine ldZ 72 HX7.out ?_)|(with_reducible refine wpList_pour (o:=⟨some 74,_,_,_,_,_⟩) rfl (.tmp 71) (.tmp 73) 35 rfl wa.heap.size 30 (.agg #[.int .i64 0,.bool false]) 2 16 Tryz.underlying35 info_step14 ?hz1 (by decide) (some ⟨gp,0,none⟩) (m+1) d _ ?hs1 hO (some ⟨w7.heap.size,0,none⟩) 1 1 _ ?hx1 hSL h1 hBD ?next1))
      all_goals try rfl
      intro B8 d8 w8 ho8 hg8;have HO8:=zq (show OwR stC 2 30 wa.heap.size w8 B8 (m+1+1) d8 (path++[⟨be,xr⟩])from OwR.poured (l':=[⟨be,xr⟩]) HO7.out.2 rfl ho8.out);have HB8:=zq (below_own (HB7.out.trans ((bA).mono HB7.out.size)) (Nat.le_trans HB7.out.size (by simp)) hO.out (Nat.le_refl _) rfl hg8.out);have HM8:=zq (show m+1+1<=24 from by omega);clear ho8 hg8 hO hSL h1 hBD HO7 HB7 HX7 hm22;go_wp2;go_roundg (k1-1)
      case measure=>have:=HIN.out;omega
      case rel=>exact⟨i+1,B8,m+1,d8,path++[⟨be,xr⟩],by have:=HIN.out;omega,by have:=HIN.out;omega,by first|go_num|(rw[IntWalk.wrap64_in _ (by have h1_:=HIN.out;have h2_:=HNB.out;omega)];go_num),rfl,HO8,HM8,HED2,HFO,HB8⟩
end
section
open Go.RowKit
open Go.Great
def linkP17 (t:Tp3)(s0:St3)(l:List PkE):List St3×Int:=match (pkPlain l).find? fun q=>q.1==5 with
 |none=>([s0],0)
 |some q=>linkedE t [s0] q.2
def readT17 (t:Tp3)(ref:Int)(rev:Bool)(s0:St3)(l:List PkE):Ma3×Int:=match l with
 |[]=>(noMa,50)
 |p::r=>
  if(rsecE p.V rev).2.2≠0 then(noMa,(rsecE p.V rev).2.2)
  else if(linkP17 t s0 (p::r)).2≠0 then(noMa,(linkP17 t s0 (p::r)).2)
  else if mayM t ⟨ref,rev,(linkP17 t s0 (p::r)).1,(rsecE p.V rev).1,(rsecE p.V rev).2.1⟩=true then(⟨ref,rev,(linkP17 t s0 (p::r)).1,(rsecE p.V rev).1,(rsecE p.V rev).2.1⟩,0)else(noMa,7)
theorem read_bad17 {t:Tp3}{ref:Int}{rev:Bool}{L:List (Int×List Int)}(h:(locE t ref rev 0).2≠0):readE t itemsOk ref rev L=(noMa,(locE t ref rev 0).2):=by
 rw[loc_zero17]at h⊢;unfold readE;by_cases hc:checkE t=0
 ·rw[if_pos hc]at h⊢
  rw[if_neg (fun h2=>h2 hc)]
  cases hb:balF t ref with
  |none=>rfl
  |some b=>rw[hb]at h;exact absurd rfl h
 ·rw[if_neg hc,if_pos hc]
theorem read_go17 {t:Tp3}{ref:Int}{rev:Bool}{l:List PkE}{x:Ps3}(h:locE t ref rev 0=(x,0)):readE t itemsOk ref rev (pkPlain l)=if readB17 l=false then(noMa,50)else readT17 t ref rev (stepP x) l:=by
 rw[loc_zero17]at h;unfold readE;by_cases hc:checkE t=0
 ·rw[if_pos hc]at h
  rw[if_neg (fun h2=>h2 hc)]
  cases hb:balF t ref with
  |none=>rw[hb]at h;injection h with _ h;exact absurd h (by decide)
  |some b=>
   rw[hb]at h;injection h with h _
   subst h;dsimp only
   cases l with
   |nil=>rfl
   |cons p r=>
    have e1:pkPlain (p::r)=(p.id,p.V)::pkPlain r:=rfl;have e2:(pkPlain (p::r)).all itemsOk=(p::r).all fun p=>itemsOk (p.id,p.V):=by unfold pkPlain;rw[List.all_map];rfl
    have e3:readB17 (p::r)=(p.id==15 &&(p::r).all fun p=>itemsOk (p.id,p.V)):=rfl;rw[e3,<-e2];by_cases h1:p.id≠15\/(pkPlain (p::r)).all itemsOk=false
    ·have h2:(p.id==15 &&(pkPlain (p::r)).all itemsOk)=false:=by
      rcases h1 with h1|h1
      ·rw[beq_eq_false_iff_ne.2 h1];rfl
      ·rw[h1,Bool.and_false]
     rw[h2,if_pos rfl,e1];dsimp only;rw[if_pos (by rw[<-e1];exact h1)]
    ·have h2:(p.id==15 &&(pkPlain (p::r)).all itemsOk)=true:=by
      have h3:p.id=15:=Classical.not_not.1 fun h=>h1 (Or.inl h);have h4:(pkPlain (p::r)).all itemsOk=true:=by
       cases hq:(pkPlain (p::r)).all itemsOk with
       |true=>rfl
       |false=>exact absurd (Or.inr hq) h1
      rw[h3,h4]
      rfl
     rw[h2,if_neg (by decide)];unfold readT17 linkP17 rsecE;rw[e1]at h1⊢;dsimp only;rw[if_neg h1];by_cases h5:p.V.getD 0 0≠dirB rev
     ·rw[if_pos h5,if_pos h5,if_pos (by decide)]
     ·rw[if_neg h5,if_neg h5]
      by_cases h6:7<p.V.getD 4 0
      ·rw[if_pos h6,if_pos h6,if_pos (by decide)]
      ·rw[if_neg h6,if_neg h6]
       generalize readSecs (p.V.getD 1 0) (p.V.getD 4 0+1).toNat 0 (p.V.drop 5)=s;obtain⟨s1,s2,s3⟩:=s;dsimp only;by_cases h7:s3≠0
       ·rw[if_pos h7,if_pos h7,if_pos h7]
       ·rw[if_neg h7,if_neg h7]
        rfl
 ·rw[if_neg hc]at h
  injection h with _ h
  exact absurd h (by decide)
theorem follow_len17 (t:Tp3)(path:List St3)(ks:List Lk17):(followE t path ks).1.length<=path.length+ks.length:=by
 induction ks generalizing path with
 |nil=>exact Nat.le_refl _
 |cons k r ih=>
  rw[followE];split
  ·simp
  ·split
   ·simp
   ·split
    ·have:=ih path;rw[List.length_cons];omega
    ·split
     ·simp
     ·split
      ·simp
      ·have:=ih (path++[⟨‹Bl3›.edge,k.rev⟩]);rw[List.length_append]at this;simp only[List.length_cons,List.length_nil]at this⊢;omega
theorem dm_le17 (x u:Int):(dmOf x u).1<=3276600:=by
 have h:=unit_cases u;unfold dmOf;split
 ·show(0:Int)<=3276600;decide
 ·split
  ·show(0:Int)<=3276600;decide
  ·show x*unitOf u<=3276600
   rcases h with h|h|h|h<;>rw[h]<;>omega
theorem secs_top17 {u to_:Int}{k:Nat}{V:List Int}: ∀s∈(readSecs u k to_ V).1,s.to_<=to_+k*3276600:=by
 induction k generalizing to_ V with
 |zero=>intro s hs;cases hs
 |succ k ih=>
  intro s hs;rw[readSecs]at hs;split at hs
  ·cases hs
  ·split at hs
   ·cases hs
   ·split at hs
    ·cases hs
    ·dsimp only at hs
     split at hs
     ·cases hs
     ·have h1:=dm_le17 (V.getD 0 0) u
      rcases List.mem_cons.1 hs with rfl|hs
      ·show to_+(dmOf (V.getD 0 0) u).1<=_
       omega
      ·have h2:=ih s hs
       omega
theorem rsec_top17 {V:List Int}{rev:Bool}: ∀s∈(rsecE V rev).1,s.to_<=9223372036854775807:=by
 intro s hs;unfold rsecE at hs;split at hs
 ·cases hs
 ·split at hs
  ·cases hs
  ·rename_i h1 h2
   dsimp only at hs;split at hs
   ·cases hs
   ·have h3:=secs_top17 s hs
    omega
theorem opn_read (t:Tp3)(a:TpA)(ref:Int)(rev:Bool)(l:List PkE)(A:Option Addr)(n c:Nat)(w:World)(ht:TopR w t a)(hl:lightT t=true)(hcj:t.joints.length<=a.cj)(hs:SlK w A n c l)(hn:n<=30)(hv: ∀p∈l,p.n<=3000)(hwd:Wd w):Calls Tryz.prog 18 #[.agg (tpC t a),.int .i64 ref,.bool rev,.slice A n c] w fun r w'=> ∃b,r= .returned (.tuple #[.agg (maC (readE t itemsOk ref rev (pkPlain l)).1 b),.int .i64 (readE t itemsOk ref rev (pkPlain l)).2])/\MaR w' (readE t itemsOk ref rev (pkPlain l)).1 b/\Below w.heap.size w w':=by
 have HL0:=zq (fun W (hW:Below w.heap.size w W)=>opl_locate0 t a ref rev 0 W (ht.under hW) hl hcj);have HAR:=zq (fun W (hW:Below w.heap.size w W)=>opread_ok17 l A n c W (hs.under hW) hn hv (hwd.under hW));have HSK:=zq (fun W (hW:Below w.heap.size w W)=>hs.under hW);have HMY:=zq (fun W (hW:Below w.heap.size w W) m b hm h1 h2=>opn_may t a m b W (ht.under hW) hl hcj hm h1 h2);have HFO:=zq (fun W (hW:Below w.heap.size w W) s0 ks B m d hck he0 hk hm=>opfollow_any t a s0 ks B m d W (ht.under hW) hl hck he0 hk hm);have HV:=zq hv;have HNN:=zq hn;obtain⟨R,hR⟩:=geZ (readE t itemsOk ref rev (pkPlain l));have HR:=zq hR;rw[hR];obtain⟨M,E⟩:=R;dsimp only;obtain⟨x,e,hloc⟩: ∃x e,locE t ref rev 0=(x,e):=⟨_,_,rfl⟩
 have HLOC:=zq hloc;rw[hloc]at HL0;obtain⟨xe,xa,xr⟩:=x;unfold psA at HL0;dsimp only at HL0;obtain⟨wa,hwa,hbwa,HWA,HBWA,h0,h1⟩:=bx2Z w 27 (tpC t a) 38 #[.int .i64 0,.bool false,.slice none 0 0,.slice none 0 0,.int .i64 0];have H0:=zH h0;have H1:=zH h1;have HUP:=zq (fun W (hW:Below wa.heap.size wa W)=>HBWA.out.trans (hW.mono HBWA.out.size));have hg0:w.heap.size<wa.heap.size:=h0.lt;have hg1:w.heap.size+1<wa.heap.size:=h1.lt;clear hwa hbwa h0 h1 ht hl hcj hs hn hv hwd hloc hR;go_enter Tryz.func18,Tryz.ntmps18;go_upto_region 1 with fail;rw[HWA.out];clear HWA;go_wp2_with (with_reducible refine ldZ 14 (H0.out wa (Below.refl _ _)) ?_);refine(HL0.out wa HBWA.out).mono ?_;rintro e_ w1 ⟨rfl,hb1⟩;have HB1:=zq hb1;clear hb1 HL0;go_upto_region 2 with fail;obtain⟨w2,hw2⟩:=geZ (w1.alloc (.cells #[.int .i64 xe,.int .i64 xa,.bool xr] 51));rw[hw2];have HB2:=zq (show Below wa.heap.size wa w2 from by rw[<-hw2];exact HB1.out.alloc HB1.out.size _);have hH:Has w2 w1.heap.size 51 #[.int .i64 xe,.int .i64 xa,.bool xr]:=by rw[<-hw2];exact Has.made _ _ _
 obtain⟨gP,hgP⟩: ∃g,w1.heap.size=g:=⟨_,rfl⟩
 rw[hgP]at hH;simp only[hgP];have HHP:=zH hH;have HX2:=zq (fun W (hW:Below w2.heap.size w2 W)=>HB2.out.trans (hW.mono HB2.out.size));clear hw2 hH hgP HB1;by_cases z0:e=0;rotate_left
 ·have q0:(e !=0)=true:=by simp[z0]
  obtain⟨rfl,rfl⟩:M=noMa/\E=e:=by have h_:=HR.out;rw[read_bad17 (by rw[HLOC.out];exact z0),HLOC.out]at h_;injection h_ with h1_ h2_;exact⟨h1_.symm,h2_.symm⟩
  clear z0;have HZ:=zq (H1.out w2 HB2.out);have HRR:=zq (has_row11 HZ.out #[.int .i64 0,.bool false,.slice none 0 0,.slice none 0 0,.int .i64 0]);have HBF:=zq (below_row (g:=w.heap.size+1) (HBWA.out.trans (HB2.out.mono HBWA.out.size)) (by omega) #[.int .i64 0,.bool false,.slice none 0 0,.slice none 0 0,.int .i64 0]);go_wp2_with (with_reducible refine stZ #[.int .i64 0,.bool false,.slice none 0 0,.slice none 0 0,.int .i64 0] HZ.out ?_);refine rtZ HRR.out ?_;exact⟨⟨none,0,none,0⟩,rfl,⟨SlO.nil _ _ _,SlO.nil _ _ _,Nat.le_refl _,Nat.le_refl _,fun s hs=>by cases hs⟩,HBF.out⟩
 subst z0;have q0:((0:Int) !=0)=false:=rfl;obtain⟨hck,_,hrx,_⟩:=loc_place17 HLOC.out;have HCK:=zq hck;have HEX:=zq (show edgeB t (stepP ⟨xe,xa,xr⟩).edge=true from(on_iff.1 (right_iff.1 hrx).2).1);have HR:=zq ((read_go17 HLOC.out).symm.trans HR.out);have HARX:=zq (HAR.out w2 (HUP.out _ HB2.out));obtain⟨rb,hrb⟩: ∃q,readB17 l=q:=⟨_,rfl⟩
 rw[hrb]at HARX HR;have HRB:=zq hrb;clear hrb hck hrx HAR;go_upto_region 4 with fail;clear q0;go_wp2_with fail;refine HARX.out.mono ?_;rintro e_ w3 ⟨rfl,hb3⟩;have HB3:=tB HB2 hb3;have HP3:=zq (HHP.out _ hb3);clear hb3 HARX HHP HX2 HB2
 cases rb with
 |false=>
  obtain⟨rfl,rfl⟩:M=noMa/\E=50:=by have h_:=HR.out;rw[if_pos rfl]at h_;injection h_ with h1_ h2_;exact⟨h1_.symm,h2_.symm⟩
  have HZ:=zq (H1.out w3 HB3.out);have HRR:=zq (has_row11 HZ.out #[.int .i64 0,.bool false,.slice none 0 0,.slice none 0 0,.int .i64 0]);have HBF:=zq (below_row (g:=w.heap.size+1) (HBWA.out.trans (HB3.out.mono HBWA.out.size)) (by omega) #[.int .i64 0,.bool false,.slice none 0 0,.slice none 0 0,.int .i64 0]);go_wp2_with (with_reducible refine stZ #[.int .i64 0,.bool false,.slice none 0 0,.slice none 0 0,.int .i64 0] HZ.out ?_);refine rtZ HRR.out ?_;exact⟨⟨none,0,none,0⟩,rfl,⟨SlO.nil _ _ _,SlO.nil _ _ _,Nat.le_refl _,Nat.le_refl _,fun s hs=>by cases hs⟩,HBF.out⟩
 |true=>
 have HR:=zq (by have h_:=HR.out;rw[if_neg (by decide)]at h_;exact h_);obtain⟨w4,hw4⟩: ∃u,w3.alloc (.cells #[.int .i64 ref,.bool rev,.slice none 0 0,.slice none 0 0,.int .i64 0] 38)=u:=⟨_,rfl⟩
 have hb4:Below w3.heap.size w3 w4:=by rw[<-hw4];exact bA
 have hH4:Has w4 w3.heap.size 38 #[.int .i64 ref,.bool rev,.slice none 0 0,.slice none 0 0,.int .i64 0]:=by rw[<-hw4];exact Has.made _ _ _
 obtain⟨gm,hgm⟩: ∃g,w3.heap.size=g:=⟨_,rfl⟩
 rw[hgm]at hH4;have hgm2:wa.heap.size<=gm:=by rw[<-hgm];exact HB3.out.size
 have HB4:=tB HB3 hb4;have HP4:=uH HP3 hb4;have HM4:=zq hH4;have HW4:=zq hw4;have HGM:=zq hgm;clear hw4 hb4 hH4 hgm HB3 HP3
 cases l with
 |nil=>exact absurd HRB.out (by decide)
 |cons p r=>
 have hmem:p∈p::r:=List.mem_cons_self ..;have hrd:(p.id==15 &&(p::r).all fun p=>itemsOk (p.id,p.V))=true:=HRB.out;obtain⟨hid,hall⟩:=Bool.and_eq_true_iff.1 hrd;have hid:p.id=15:=by simpa using hid
 have HALL:=zq (show∀q∈p::r,itemsOk (q.id,q.V)=true from List.all_eq_true.1 hall);have hp15:=HALL.out p hmem;rw[hid]at hp15;have HP15:=zq hp15;have HPN:=zq (HV.out p hmem);have HS4:=zq (HSK.out w4 (HUP.out _ HB4.out));obtain⟨bk,off,hA,d0,d1⟩:=HS4.out.pk17 (j:=0) (x:=p) rfl;subst hA;have d0':w4.cell? ⟨bk,off,none⟩=some (.int .i64 p.id):=by rw[show off=off+0*2 by omega];exact d0
 have d1':w4.cell? ⟨bk,off+1,none⟩=some (.slice p.A p.n p.c):=by rw[show off+1=off+0*2+1 by omega];exact d1
 have HSE:=zq (HS4.out.each p hmem);have hn1:0<n:=by rw[<-HS4.out.len,List.length_cons];omega
 have u1:(0:Int)<(n:Int):=by omega
 have HRS:=zq (oprdsecs_any p.id p.A p.n p.c p.V rev w4 HSE.out (by have:=HPN.out;omega) HP15.out);obtain⟨RS,hRS⟩: ∃q,rsecE p.V rev=q:=⟨_,rfl⟩
 have HTOP:=zq (rsec_top17 (V:=p.V) (rev:=rev));have HR:=zq (show(if(rsecE p.V rev).2.2≠0 then(noMa,(rsecE p.V rev).2.2)else if(linkP17 t (stepP ⟨xe,xa,xr⟩) (p::r)).2≠0 then(noMa,(linkP17 t (stepP ⟨xe,xa,xr⟩) (p::r)).2)else if mayM t ⟨ref,rev,(linkP17 t (stepP ⟨xe,xa,xr⟩) (p::r)).1,(rsecE p.V rev).1,(rsecE p.V rev).2.1⟩=true then(⟨ref,rev,(linkP17 t (stepP ⟨xe,xa,xr⟩) (p::r)).1,(rsecE p.V rev).1,(rsecE p.V rev).2.1⟩,0)else(noMa,7))=(M,E)from HR.out);rw[hRS]at HRS HTOP HR;obtain⟨SL,SG,SE⟩:=RS;dsimp only at HRS HTOP HR;clear hRS hmem hrd hid hall hp15 hn1 d0 d1 HP15 HPN HSE;go_upto_region 7 with fail;rw[HW4.out];simp only[HGM.out];clear HW4 HGM;go_wp2_with fail;refine HRS.out.mono ?_;rintro e_ w5 ⟨SB,sm,sd,G,rfl,hsec,hsm,hb5⟩;have HSEC:=zq hsec;have HSM:=zq hsm;have HB5:=tB HB4 hb5;have HP5:=uH HP4 hb5;have HM5:=uH HM4 hb5;have HW45:=zq hb5.size;have HG4:=zq HB4.out.size;clear hb5 hsec hsm HRS HB4 HP4 HM4 d0' d1' u1;have HMa:=zq (has_row11 HM5.out #[.int .i64 ref,.bool rev,.slice none 0 0,.slice SB sm sd,.int .i64 0]);have HMb:=zq (has_row11 HMa.out #[.int .i64 ref,.bool rev,.slice none 0 0,.slice SB sm sd,.int .i64 G]);have HBb:=zq (below_row (g:=gm) (below_row (g:=gm) HB5.out hgm2 #[.int .i64 ref,.bool rev,.slice none 0 0,.slice SB sm sd,.int .i64 0]) hgm2 #[.int .i64 ref,.bool rev,.slice none 0 0,.slice SB sm sd,.int .i64 G]);have hpm:gP≠gm:=by intro e_;subst e_;have h1_:=HP5.out;have h2_:=HM5.out;unfold Has at h1_ h2_;rw[h1_]at h2_;injection h2_ with h2_;injection h2_ with _ h2_;exact absurd h2_ (by decide)
 have HPb:=zq (has_rowo11 (g:=gm) (has_rowo11 (g:=gm) HP5.out hpm #[.int .i64 ref,.bool rev,.slice none 0 0,.slice SB sm sd,.int .i64 0]) hpm #[.int .i64 ref,.bool rev,.slice none 0 0,.slice SB sm sd,.int .i64 G]);obtain⟨w6,hw6⟩: ∃u,(w5.setRow gm #[.int .i64 ref,.bool rev,.slice none 0 0,.slice SB sm sd,.int .i64 0]).setRow gm #[.int .i64 ref,.bool rev,.slice none 0 0,.slice SB sm sd,.int .i64 G]=u:=⟨_,rfl⟩
 have HSC:Hid (SE=0->OwR scC17 2 66 wa.heap.size w6 SB sm sd SL):=zq (fun h_=>by have ho_:=(HSEC.out h_).2.to_base HG4.out;rw[<-hw6];have hk_:=ho_.kept (only_row11 w5 gm #[.int .i64 ref,.bool rev,.slice none 0 0,.slice SB sm sd,.int .i64 0]) (.inr (ho_.apart HM5.out (by decide)));exact hk_.kept (only_row11 _ gm #[.int .i64 ref,.bool rev,.slice none 0 0,.slice SB sm sd,.int .i64 G]) (.inr (hk_.apart HMa.out (by decide))));rw[hw6]at HMb HBb HPb;have HW6:=zq hw6;clear hw6;go_upto_region 8 with(first|(with_reducible refine wpList_store_cell17 (o:=⟨none,_,_,_,_,_⟩) rfl 36 _ _ rfl (gm) 3 (.slice SB sm sd) rfl rfl 38 #[.int .i64 ref,.bool rev,.slice none 0 0,.slice none 0 0,.int .i64 0] HM5.out (Nat.le_of_ble_eq_true rfl) (by kernel_rfl) rfl #[.int .i64 ref,.bool rev,.slice none 0 0,.slice SB sm sd,.int .i64 0] rfl ?_)|(with_reducible refine wpList_store_cell17 (o:=⟨none,_,_,_,_,_⟩) rfl 3 _ _ rfl (gm) 4 (.int .i64 G) rfl rfl 38 #[.int .i64 ref,.bool rev,.slice none 0 0,.slice SB sm sd,.int .i64 0] HMa.out (Nat.le_of_ble_eq_true rfl) (by kernel_rfl) rfl #[.int .i64 ref,.bool rev,.slice none 0 0,.slice SB sm sd,.int .i64 G] rfl ?_))
 rw[HW6.out];clear HW6 HMa HM5 HB5 HP5;by_cases z:SE=0;rotate_left
 ·have q0:(SE !=0)=true:=by simp[z]
  obtain⟨rfl,rfl⟩:M=noMa/\E=SE:=by have h_:=HR.out;rw[if_pos z]at h_;injection h_ with h1_ h2_;exact⟨h1_.symm,h2_.symm⟩
  clear z;have HZ:=zq (H1.out w6 HBb.out);have HRR:=zq (has_row11 HZ.out #[.int .i64 0,.bool false,.slice none 0 0,.slice none 0 0,.int .i64 0]);have HBF:=zq (below_row (g:=w.heap.size+1) (HBWA.out.trans (HBb.out.mono HBWA.out.size)) (by omega) #[.int .i64 0,.bool false,.slice none 0 0,.slice none 0 0,.int .i64 0]);go_wp2_with (with_reducible refine stZ #[.int .i64 0,.bool false,.slice none 0 0,.slice none 0 0,.int .i64 0] HZ.out ?_);refine rtZ HRR.out ?_;exact⟨⟨none,0,none,0⟩,rfl,⟨SlO.nil _ _ _,SlO.nil _ _ _,Nat.le_refl _,Nat.le_refl _,fun s hs=>by cases hs⟩,HBF.out⟩
 subst z;have q0:((0:Int) !=0)=false:=rfl;obtain rfl:G=SG:=(HSEC.out rfl).1;have HSO:=zq (HSC.out rfl);have HR:=zq (by have h_:=HR.out;rw[if_neg (by simp)]at h_;exact h_);have HSP:=zq (fun W=>opstep_any ⟨xe,xa,xr⟩ W);unfold psA stA13 stepP at HSP;dsimp only at HSP;have HRL:=zq (fun W (hW:Below wa.heap.size wa W)=>oprdlinks_any (p::r) (some ⟨bk,off,none⟩) n c W (HSK.out W (HUP.out _ hW)) HNN.out HV.out HALL.out);have HFX:=zq (fun W (hW:Below wa.heap.size wa W) ks B m d hk hm=>HFO.out W (HUP.out _ hW) (stepP ⟨xe,xa,xr⟩) ks B m d HCK.out HEX.out hk hm);unfold stA13 stepP at HFX;dsimp only at HFX;clear HSEC HFO HSK HSC;go_upto_region 10 with fail;clear q0;skip;refine wp_region_held_drew (S:=(fun W_=>(Has W_ (w.heap.size) 27 (tpC t a))/\(Has W_ (gP) 51 #[.int .i64 xe,.int .i64 xa,.bool xr])/\(Below wa.heap.size wa W_))) (by kernel_rfl) ?_ (fun hHeld=>?_)
 ·exact⟨(H0.out _ HBb.out).draw,HPb.out.draw,below_dr11 HBb.out⟩
 have HMb:=zq HMb.out.draw;have HSO:=zq HSO.out.draw1;refine tlZ 0 47 w.heap.size (tpC t a) (fun _ ⟨h_,_,_⟩=>h_) (h:=?_);simp only[lyZ];refine tlZ 1 48 gP #[.int .i64 xe,.int .i64 xa,.bool xr] (fun _ ⟨_,h_,_⟩=>h_) (h:=?_);simp only[lyZ];refine tkZ 3 50 (h:=?_);simp only[lyZ];refine aoZ 2 (some 49) (fun K hK=>?_);go_simp;obtain⟨s0,s1,s2⟩:=hHeld;refine(HSP.out _).mono ?_;rintro e_ q1 ⟨rfl,hb_⟩;have HMb:=uH HMb hb_;have HSO:=zq (HSO.out.under hb_);go_wp2_with fail;refine hK.out _ _ ?_ (fun hHeld=>?_)
 ·exact⟨s0.u hb_,s1.u hb_,bu s2 hb_⟩
 clear hK K s0 s1 s2
 try simp only[lyZ]
 refine aoZ 4 (some 51) (fun K hK=>?_);go_simp;obtain⟨s0,s1,s2⟩:=hHeld;refine(HRL.out _ s2).mono ?_;rintro e_ q2 ⟨ks,LB,lm,ld,rfl,hls_,hlm_,hlp_,hb2_⟩;have HLP:=zq hlp_;have HLM:=zq hlm_;have HMb:=uH HMb hb2_;have HSO:=zq (HSO.out.under hb2_);have HLS:=zq (hls_);go_wp2_with fail;refine hK.out _ _ ?_ (fun hHeld=>?_)
 ·exact⟨s0.u hb2_,s1.u hb2_,bu s2 hb2_⟩
 clear hK K s0 s1 s2
 try simp only[lyZ]
 refine aoZ 5 (some 52) (fun K hK=>?_);go_simp;obtain⟨s0,s1,s2⟩:=hHeld;obtain⟨LQ,hLQ⟩: ∃q,followE t [⟨xe,xr⟩] ks=q:=⟨_,rfl⟩
 have hfx:=HFX.out _ s2 ks LB lm ld HLS.out HLM.out;rw[hLQ]at hfx;obtain⟨LP,LE⟩:=LQ;dsimp only at hfx;have HLQ0:=zq hLQ;clear hLQ;refine hfx.mono ?_;have HKL:=zq (show ks.length<=32 from by rw[HLS.out.1];exact HLM.out);rintro e_ q3 ⟨PB,pm,pd,rfl,hpo_,hb3_⟩;have hz3_:=s2.size;have HMb:=uH HMb hb3_;have HSO:=zq (HSO.out.under hb3_);have HLS:=zq (HLS.out.under hb3_);have HPO:=zq (hpo_.to_base hz3_);go_wp2_with fail;refine hK.out _ _ ?_ (fun hHeld=>?_)
 ·exact⟨s0.u hb3_,s1.u hb3_,bu s2 hb3_⟩
 clear hK K s0 s1 s2
 try simp only[lyZ]
 refine tkZ 6 46 (h:=?_);simp only[lyZ];refine tkZ 7 53 (h:=?_);simp only[lyZ];refine tkZ 8 54 (h:=?_);simp only[lyZ];refine tkZ 9 55 (h:=?_);simp only[lyZ];refine aoZ 10 none (fun K hK=>?_);rw[if_pos (by rfl)];obtain⟨s0,s1,s2⟩:=hHeld;refine wp_store_cell17 35 _ _ rfl (gm) 2 (.slice PB pm pd) (by rfl) (by rfl) 38 #[.int .i64 ref,.bool rev,.slice none 0 0,.slice SB sm sd,.int .i64 G] HMb.out (Nat.le_of_ble_eq_true rfl) (by kernel_rfl) rfl #[.int .i64 ref,.bool rev,.slice PB pm pd,.slice SB sm sd,.int .i64 G] rfl ?_;have HSO:=zq (HSO.out.kept (only_row11 _ _ #[.int .i64 ref,.bool rev,.slice PB pm pd,.slice SB sm sd,.int .i64 G]) (.inr (HSO.out.apart HMb.out (by decide))));have HPO:=zq (HPO.out.kept (only_row11 _ _ #[.int .i64 ref,.bool rev,.slice PB pm pd,.slice SB sm sd,.int .i64 G]) (.inr (HPO.out.apart HMb.out (by decide))));refine hK.out _ _ ?_ (fun hHeld=>?_)
 ·exact⟨has_rowo11 s0 (by omega) _,has_rowo11 s1 (by omega) _,below_row s2 (by omega) _⟩
 have HMb:=zq (has_row11 HMb.out #[.int .i64 ref,.bool rev,.slice PB pm pd,.slice SB sm sd,.int .i64 G]);clear hK K s0 s1 s2
 try simp only[Act.put]
 refine tkZ 11 11 (h:=?_);simp only[lyZ];refine dnZ ?_;obtain⟨w7,hw7⟩: ∃u,u=q3.setRow gm #[.int .i64 ref,.bool rev,.slice PB pm pd,.slice SB sm sd,.int .i64 G]:=⟨_,rfl⟩
 rw[<-hw7]at hHeld HMb HPO HSO⊢;have HB7:=zq hHeld.2.2;clear hHeld hw7 HRL HFX HSP;have HLQ:=zq (show linkP17 t (stepP ⟨xe,xa,xr⟩) (p::r)=(LP,LE)from by rw[<-HLQ0.out];have h_:=HLP.out;unfold LinksP at h_;unfold linkP17;cases hq_:(pkPlain (p::r)).find? (fun q=>q.1==5)with|none=>rw[hq_]at h_;rw[h_];rfl|some q_=>rw[hq_]at h_;exact h_ t _);have HLL:=zq (show LP.length<=33 from by have h_:=follow_len17 t [⟨xe,xr⟩] ks;rw[HLQ0.out]at h_;have h2_:=HKL.out;simp only[List.length_cons,List.length_nil]at h_;omega);have HR:=zq (show(if LE≠0 then(noMa,LE)else if mayM t ⟨ref,rev,LP,SL,G⟩=true then(⟨ref,rev,LP,SL,G⟩,0)else(noMa,7))=(M,E)from by rw[<-HR.out,HLQ.out]);by_cases z:LE=0;rotate_left
 ·have q0:(LE !=0)=true:=by simp[z]
  obtain⟨rfl,rfl⟩:M=noMa/\E=LE:=by have h_:=HR.out;rw[if_pos z]at h_;injection h_ with h1_ h2_;exact⟨h1_.symm,h2_.symm⟩
  clear z;have HZ:=zq (H1.out w7 HB7.out);have HRR:=zq (has_row11 HZ.out #[.int .i64 0,.bool false,.slice none 0 0,.slice none 0 0,.int .i64 0]);have HBF:=zq (below_row (g:=w.heap.size+1) (HBWA.out.trans (HB7.out.mono HBWA.out.size)) (by omega) #[.int .i64 0,.bool false,.slice none 0 0,.slice none 0 0,.int .i64 0]);go_wp2_with (with_reducible refine stZ #[.int .i64 0,.bool false,.slice none 0 0,.slice none 0 0,.int .i64 0] HZ.out ?_);refine rtZ HRR.out ?_;exact⟨⟨none,0,none,0⟩,rfl,⟨SlO.nil _ _ _,SlO.nil _ _ _,Nat.le_refl _,Nat.le_refl _,fun s hs=>by cases hs⟩,HBF.out⟩
 subst z;have q0:((0:Int) !=0)=false:=rfl;have HR:=zq (by have h_:=HR.out;rw[if_neg (by simp)]at h_;exact h_);have hpl_:LP.length=pm:=HPO.out.2;have hsl_:SL.length=sm:=HSO.out.2;have HMR:Hid (∀W,Below w7.heap.size w7 W->MaR W ⟨ref,rev,LP,SL,G⟩ ⟨PB,pd,SB,sd⟩):=zq fun W hW=>⟨by show SlO stC 2 W PB LP.length pd LP;rw[hpl_];exact(HPO.out.under hW).sl,by show SlO scC17 2 W SB SL.length sd SL;rw[hsl_];exact(HSO.out.under hW).sl,by show LP.length<=pd;rw[hpl_];exact HPO.out.cap,by show SL.length<=sd;rw[hsl_];exact HSO.out.cap,HTOP.out⟩
 have HMX:=zq (HMY.out w7 (HUP.out _ HB7.out) ⟨ref,rev,LP,SL,G⟩ ⟨PB,pd,SB,sd⟩ (HMR.out w7 (Below.refl _ _)) (by have:=HLL.out;show LP.length<=100;omega) (by have:=HSM.out;show SL.length<=100;omega));unfold maC at HMX;dsimp only at HMX;rw[hpl_,hsl_]at HMX;obtain⟨my,hmy⟩: ∃q,mayM t ⟨ref,rev,LP,SL,G⟩=q:=⟨_,rfl⟩
 rw[hmy]at HMX HR;have HPL:=zq hpl_;have HSL:=zq hsl_;clear hmy hpl_ hsl_;go_upto_region 13 with fail;clear q0;go_wp2_with (first|(with_reducible refine ldZ 60 (H0.out w7 HB7.out) ?_)|(with_reducible refine ldZ 61 HMb.out ?_));refine HMX.out.mono ?_;rintro e_ w8 ⟨rfl,hb8⟩;have HB8:=tB HB7 hb8;have HPO8:=zq (HPO.out.under hb8);have HSO8:=zq (HSO.out.under hb8);have HM8:=uH HMb hb8;clear hb8 HMX HB7 HPO HSO HMb HMR
 cases my with
 |false=>
  obtain⟨rfl,rfl⟩:M=noMa/\E=7:=by have h_:=HR.out;rw[if_neg (by decide)]at h_;injection h_ with h1_ h2_;exact⟨h1_.symm,h2_.symm⟩
  have HZ:=zq (H1.out w8 HB8.out);have HRR:=zq (has_row11 HZ.out #[.int .i64 0,.bool false,.slice none 0 0,.slice none 0 0,.int .i64 0]);have HBF:=zq (below_row (g:=w.heap.size+1) (HBWA.out.trans (HB8.out.mono HBWA.out.size)) (by omega) #[.int .i64 0,.bool false,.slice none 0 0,.slice none 0 0,.int .i64 0]);go_wp2_with (with_reducible refine stZ #[.int .i64 0,.bool false,.slice none 0 0,.slice none 0 0,.int .i64 0] HZ.out ?_);refine rtZ HRR.out ?_;exact⟨⟨none,0,none,0⟩,rfl,⟨SlO.nil _ _ _,SlO.nil _ _ _,Nat.le_refl _,Nat.le_refl _,fun s hs=>by cases hs⟩,HBF.out⟩
 |true=>
  obtain⟨rfl,rfl⟩:M=⟨ref,rev,LP,SL,G⟩/\E=0:=by have h_:=HR.out;rw[if_pos rfl]at h_;injection h_ with h1_ h2_;exact⟨h1_.symm,h2_.symm⟩
  have HZ:=zq (H1.out w8 HB8.out);have HRR:=zq (has_row11 HZ.out #[.int .i64 ref,.bool rev,.slice PB pm pd,.slice SB sm sd,.int .i64 G]);have HBF:=zq (below_row (g:=w.heap.size+1) (HBWA.out.trans (HB8.out.mono HBWA.out.size)) (by omega) #[.int .i64 ref,.bool rev,.slice PB pm pd,.slice SB sm sd,.int .i64 G]);have HPF:=zq (HPO8.out.rowlow17 hg1 #[.int .i64 ref,.bool rev,.slice PB pm pd,.slice SB sm sd,.int .i64 G]);have HSF:=zq (HSO8.out.rowlow17 hg1 #[.int .i64 ref,.bool rev,.slice PB pm pd,.slice SB sm sd,.int .i64 G]);go_wp2_with (first|(with_reducible refine ldZ 65 HM8.out ?_)|(with_reducible refine stZ #[.int .i64 ref,.bool rev,.slice PB pm pd,.slice SB sm sd,.int .i64 G] HZ.out ?_));refine rtZ HRR.out ?_;refine⟨⟨PB,pd,SB,sd⟩,by unfold maC;dsimp only;rw[HPL.out,HSL.out];rfl,⟨?_,?_,?_,?_,HTOP.out⟩,HBF.out⟩
  ·show SlO stC 2 _ PB LP.length pd LP;rw[HPL.out];exact HPF.out.sl
  ·show SlO scC17 2 _ SB SL.length sd SL;rw[HSL.out];exact HSF.out.sl
  ·show LP.length<=pd;rw[HPL.out];exact HPF.out.cap
  ·show SL.length<=sd;rw[HSL.out];exact HSF.out.cap
end
section
open Go.RowKit
open Go.Great
def ma17:Ma3:=⟨7,false,[⟨0,false⟩,⟨1,false⟩],[⟨290,30⟩],0⟩
theorem a17_1:buildE lineT [⟨1,5,1⟩,⟨2,5,2⟩] 5 7 false 40=(ma17,0):=by kernel_rfl
theorem a17_2:(packetsE lineT ma17).2=0:=by kernel_rfl
theorem a17_3:(packetsE lineT ma17).1.length=2:=by kernel_rfl
theorem a17_4:readE lineT itemsOk 7 false (packetsE lineT ma17).1=(ma17,0):=by kernel_rfl
theorem a17_5:mayM lineT ma17=true:=by kernel_rfl
theorem a17_6:reachM ma17 29=290:=by kernel_rfl
theorem a17_7:reachM ma17 30=0:=by kernel_rfl
theorem a17_8:(packetsE lineT ma17).1.all (fun p=>decide (p.2.length<=3000))=true:=by kernel_rfl
theorem awake17_any (w:World)(hwd:Wd w):Calls Tryz.prog 9 #[] w fun e w'=>e= .returned (.bool true)/\Below w.heap.size w w':=by
 have HWD:=zq (fun W (hW:Below w.heap.size w W)=>hwd.under hW);clear hwd;go_enter Tryz.func9,Tryz.ntmps9;go_wp2_with fail;refine(line_any w).mono ?_;rintro e_ v1 ⟨a1,rfl,ht1,hcj1,hb1⟩;have HT:=zq ht1;have HCJ:=zq hcj1;have HB:=zq hb1;clear ht1 hcj1 hb1;have hm:Has (v1.alloc (.cells #[.slice none 0 0,.slice none 0 0,.slice none 0 0,.slice none 0 0] 27)) v1.heap.size 27 #[.slice none 0 0,.slice none 0 0,.slice none 0 0,.slice none 0 0]:=Has.made _ _ _;have HMM:=zq hm;obtain⟨u1,hu1⟩: ∃u_,(v1.alloc (.cells #[.slice none 0 0,.slice none 0 0,.slice none 0 0,.slice none 0 0] 27)).setRow v1.heap.size (tpC lineT a1)=u_:=⟨_,rfl⟩
 have hbu1:Below v1.heap.size v1 u1:=by rw[<-hu1];exact below_row (g:=v1.heap.size) (bA) (Nat.le_refl _) _
 have H1:=zq (show Has u1 v1.heap.size 27 (tpC lineT a1)from by rw[<-hu1];exact has_row11 hm _);have HUU:=zq hu1;clear hm hu1;go_upto_region 2 with(with_reducible refine stZ (tpC lineT a1) HMM.out ?_)
 rw[HUU.out];clear HUU HMM;obtain⟨g1,hg1⟩: ∃g_,v1.heap.size=g_:=⟨_,rfl⟩
 rw[hg1]at H1;simp only[hg1];clear hg1;have HB:=tB HB hbu1;have HT:=zq (HT.out.under hbu1);clear hbu1;go_upto_region 3 with fail;obtain⟨u2,hu2⟩: ∃u_,u1.alloc (.cells #[.int .i64 1,.int .i64 5,.int .i64 1,.int .i64 2,.int .i64 5,.int .i64 2] 73)=u_:=⟨_,rfl⟩
 rw[hu2];have hbu2:Below u1.heap.size u1 u2:=by rw[<-hu2];exact bA
 have H2:=zq (show Has u2 u1.heap.size 73 #[.int .i64 1,.int .i64 5,.int .i64 1,.int .i64 2,.int .i64 5,.int .i64 2]from by rw[<-hu2];exact Has.made _ _ _);obtain⟨g2,hg2⟩: ∃g_,u1.heap.size=g_:=⟨_,rfl⟩
 rw[hg2]at H2;simp only[hg2];clear hu2 hg2;have HB:=tB HB hbu2;have H1:=uH H1 hbu2;have HT:=zq (HT.out.under hbu2);clear hbu2;have HL:=zq (show SlO lcC 3 u2 (some ⟨g2,0,none⟩) 2 2 [⟨1,5,1⟩,⟨2,5,2⟩]from⟨rfl,sl_hasR H2.out rfl⟩);go_wp2_with (with_reducible refine ldZ 15 H1.out ?_);refine(opn_build lineT a1 [⟨1,5,1⟩,⟨2,5,2⟩] 5 7 false 40 (some ⟨g2,0,none⟩) 2 2 u2 HT.out line_light HCJ.out HL.out (by omega) (by omega)).mono ?_;rw[a17_1];rintro e_ v3 ⟨b3,rfl,hm3,hb3⟩;have HM3:=zq hm3;clear hm3 HL H2;dsimp only;have HB:=tB HB hb3;have H1:=uH H1 hb3;have HT:=zq (HT.out.under hb3);clear hb3;have hm:Has (v3.alloc (.cells #[.int .i64 0,.bool false,.slice none 0 0,.slice none 0 0,.int .i64 0] 38)) v3.heap.size 38 #[.int .i64 0,.bool false,.slice none 0 0,.slice none 0 0,.int .i64 0]:=Has.made _ _ _;have HMM:=zq hm;obtain⟨u3,hu3⟩: ∃u_,(v3.alloc (.cells #[.int .i64 0,.bool false,.slice none 0 0,.slice none 0 0,.int .i64 0] 38)).setRow v3.heap.size (maC ma17 b3)=u_:=⟨_,rfl⟩
 have hbu3:Below v3.heap.size v3 u3:=by rw[<-hu3];exact below_row (g:=v3.heap.size) (bA) (Nat.le_refl _) _
 have H3:=zq (show Has u3 v3.heap.size 38 (maC ma17 b3)from by rw[<-hu3];exact has_row11 hm _);have HUU:=zq hu3;clear hm hu3;go_upto_region 4 with(with_reducible refine stZ (maC ma17 b3) HMM.out ?_)
 rw[HUU.out];clear HUU HMM;obtain⟨g3,hg3⟩: ∃g_,v3.heap.size=g_:=⟨_,rfl⟩
 rw[hg3]at H3;simp only[hg3];clear hg3;have HB:=tB HB hbu3;have H1:=uH H1 hbu3;have HT:=zq (HT.out.under hbu3);have HM3:=zq (HM3.out.under hbu3);clear hbu3;go_wp2_with (first|(with_reducible refine ldZ 21 H1.out ?_)|(with_reducible refine ldZ 22 H3.out ?_));refine(opn_packets lineT a1 ma17 b3 u3 HT.out line_light HCJ.out HM3.out (by decide) (by decide)).mono ?_;rw[a17_2];rintro e_ v4 ⟨B,k,c,L,rfl,hs4,hp4,hb4⟩;have HS4:=zq hs4;have HP4:=zq hp4;clear hs4 hp4;have HB:=tB HB hb4;have H1:=uH H1 hb4;have H3:=uH H3 hb4;have HT:=zq (HT.out.under hb4);have HM3:=zq (HM3.out.under hb4);clear hb4;obtain rfl:k=2:=by rw[<-HS4.out.len];have h_:=congrArg List.length HP4.out;rw[a17_3]at h_;simpa[pkPlain]using h_
 have HV4:=zq (show∀p∈L,p.n<=3000 from fun p hp=>by have h_:=List.all_eq_true.1 a17_8 (p.id,p.V) (by rw[<-HP4.out];exact List.mem_map.2 ⟨p,hp,rfl⟩);rw[<-(HS4.out.each p hp).len];simpa using h_);go_upto_region 5 with fail;go_wp2_with (with_reducible refine ldZ 27 H1.out ?_);refine(opn_read lineT a1 7 false L B 2 c v4 HT.out line_light HCJ.out HS4.out (by omega) HV4.out (HWD.out v4 HB.out)).mono ?_;rw[HP4.out,a17_4];rintro e_ v5 ⟨b5,rfl,hm5,hb5⟩;have HM5:=zq hm5;clear hm5 HS4 HP4 HV4;dsimp only;have HB:=tB HB hb5;have H1:=uH H1 hb5;have H3:=uH H3 hb5;have HT:=zq (HT.out.under hb5);have HM3:=zq (HM3.out.under hb5);clear hb5;have hm:Has (v5.alloc (.cells #[.int .i64 0,.bool false,.slice none 0 0,.slice none 0 0,.int .i64 0] 38)) v5.heap.size 38 #[.int .i64 0,.bool false,.slice none 0 0,.slice none 0 0,.int .i64 0]:=Has.made _ _ _;have HMM:=zq hm;obtain⟨u5,hu5⟩: ∃u_,(v5.alloc (.cells #[.int .i64 0,.bool false,.slice none 0 0,.slice none 0 0,.int .i64 0] 38)).setRow v5.heap.size (maC ma17 b5)=u_:=⟨_,rfl⟩
 have hbu5:Below v5.heap.size v5 u5:=by rw[<-hu5];exact below_row (g:=v5.heap.size) (bA) (Nat.le_refl _) _
 have H5:=zq (show Has u5 v5.heap.size 38 (maC ma17 b5)from by rw[<-hu5];exact has_row11 hm _);have HUU:=zq hu5;clear hm hu5;go_upto_region 6 with(with_reducible refine stZ (maC ma17 b5) HMM.out ?_)
 rw[HUU.out];clear HUU HMM;obtain⟨g5,hg5⟩: ∃g_,v5.heap.size=g_:=⟨_,rfl⟩
 rw[hg5]at H5;simp only[hg5];clear hg5;have HB:=tB HB hbu5;have H1:=uH H1 hbu5;have H3:=uH H3 hbu5;have HT:=zq (HT.out.under hbu5);have HM3:=zq (HM3.out.under hbu5);have HM5:=zq (HM5.out.under hbu5);clear hbu5;have m3:u5.cell? ⟨g3,3,none⟩=some (.slice b3.aq 1 b3.cs):=H3.out.cell 3;go_upto_region 8 with fail;clear m3;go_wp2_with (first|(with_reducible refine ldZ 53 H3.out ?_)|(with_reducible refine ldZ 54 H5.out ?_));refine(rsame17 ma17 ma17 b3 b5 u5 HM3.out HM5.out (by decide) (by decide)).mono ?_;rw[(sameM17_iff ma17 ma17).2 rfl];rintro e_ v6 ⟨rfl,hb6⟩;have HB:=tB HB hb6;have H1:=uH H1 hb6;have H3:=uH H3 hb6;have HT:=zq (HT.out.under hb6);have HM3:=zq (HM3.out.under hb6);clear hb6;obtain⟨bs,os,hbs,d0,d1⟩:=HM3.out.sects.sect (j:=0) (x:=⟨290,30⟩) rfl;rw[Nat.zero_mul,Nat.add_zero]at d0 d1;have m3:v6.cell? ⟨g3,3,none⟩=some (.slice (some ⟨bs,os,none⟩) 1 b3.cs):=by have h_:=H3.out.cell 3;rw[<-hbs];exact h_
 have q1:=eql_sc17 ⟨290,30⟩ ⟨290,30⟩;rw[(eqC17_iff _ _).2 rfl]at q1;unfold scA17 at q1;dsimp only at q1 d0 d1;clear hbs;go_upto_region 9 with fail;go_wp2_with (first|((with_reducible refine at_slot11 66 ?_);refine wpList_load_rowW11 (o:=⟨some 66,_,_,_,_,_⟩) 27 _ rfl (by kernel_rfl) (g1) rfl 27 (tpC lineT a1) (0,0) _ (H1.out).raw11 Tryz.underlying27 rfl (by kernel_rfl) ?_)|((with_reducible refine at_slot11 67 ?_);refine wpList_load_rowW11 (o:=⟨some 67,_,_,_,_,_⟩) 38 _ rfl (by kernel_rfl) (g3) rfl 38 (maC ma17 b3) (0,0) _ (H3.out).raw11 Tryz.underlying38 rfl (by kernel_rfl) ?_));refine(opn_may lineT a1 ma17 b3 v6 HT.out line_light HCJ.out HM3.out (by decide) (by decide)).mono ?_;rw[a17_5];rintro e_ v7 ⟨rfl,hb7⟩;clear d0 d1 m3 q1;have HB:=tB HB hb7;have H1:=uH H1 hb7;have H3:=uH H3 hb7;have HT:=zq (HT.out.under hb7);have HM3:=zq (HM3.out.under hb7);clear hb7;go_wp2_with ((with_reducible refine at_slot11 71 ?_);refine wpList_load_rowW11 (o:=⟨some 71,_,_,_,_,_⟩) 38 _ rfl (by kernel_rfl) (g3) rfl 38 (maC ma17 b3) (0,0) _ (H3.out).raw11 Tryz.underlying38 rfl (by kernel_rfl) ?_);refine(opn_reach ma17 b3 29 v7 HM3.out (by decide) (by decide)).mono ?_;rw[a17_6];rintro e_ v8 ⟨rfl,hb8⟩;have HB:=tB HB hb8;have H1:=uH H1 hb8;have H3:=uH H3 hb8;have HT:=zq (HT.out.under hb8);have HM3:=zq (HM3.out.under hb8);clear hb8;go_wp2_with ((with_reducible refine at_slot11 76 ?_);refine wpList_load_rowW11 (o:=⟨some 76,_,_,_,_,_⟩) 38 _ rfl (by kernel_rfl) (g3) rfl 38 (maC ma17 b3) (0,0) _ (H3.out).raw11 Tryz.underlying38 rfl (by kernel_rfl) ?_);refine(opn_reach ma17 b3 30 v8 HM3.out (by decide) (by decide)).mono ?_;rw[a17_7];rintro e_ v9 ⟨rfl,hb9⟩;have HB:=tB HB hb9;clear hb9;go_wp2;go_ret
 exact⟨by first|rfl|simp,HB.out⟩
end
end Go.Proofs.YtahadmeilajdgaaGreatDoor
