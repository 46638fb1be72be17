/-
  Our own text, joined.
-/
import Derived.Test.YtahadmeilajdgaaGreatDoorMsak
import Derived.BigQuiet
import Derived.IntWalk
import Derived.Test.YtahadmeilajdgaaGreatDoorMsaa
import Derived.Test.YtahadmeilajdgaaGreatDoorMsaf
import Derived.Test.YtahadmeilajdgaaGreatDoorMsaj
import Derived.Deep.RegionHeld3
import Derived.Deep.DeepCutAuto
import Derived.StillTailTactics
import Derived.Deep.AppendLies
namespace Go.Proofs.YtahadmeilajdgaaGreatDoor
set_option maxRecDepth 100000
set_option maxHeartbeats 80000000
section
open Go.RowKit
open Go.Great
def lkA17 (k:Lk17):Array Value:=#[.bool k.told,.int .i64 k.group,.bool k.rev]
def lkC17 (k:Lk17):List Value:=[.bool k.told,.int .i64 k.group,.bool k.rev]
theorem one_lk17 (k:Lk17): ∀u∈lkC17 k,u.oneCell'=true:=by
 intro u hu;simp only[lkC17,List.mem_cons,List.not_mem_nil,or_false]at hu
 rcases hu with rfl|rfl|rfl<;>rfl
theorem info_lk17:(Tryz.prog.info? 180).map (fun i=>(i.zero,i.size,i.bytes))=some (some (.agg #[.bool false,.int .i64 0,.bool false]),3,24):=by kernel_rfl
theorem NumR.draw17 {wb W:World}{g:Nat}{V:List Int}(h:NumR wb W g V):NumR wb W.drew g V:=by
 obtain⟨A,n,c,h1,h2⟩:=h;exact⟨A,n,c,h1.draw,h2⟩
theorem grow_new17 {a b:World}{row:Option Nat}{g:Nat}(h:a.grownBy b row)(hg:a.heap.size<=g)(cs:Array Value):a.grownBy (b.setRow g cs) row:=
 ⟨h.os,h.tape,h.output,by simpa using h.size,fun k hk hne=>by rw[setRow_other b g k cs (by omega)];exact h.block k hk hne⟩
theorem oprdlink_any (k:Lk17)(V U:List Int)(hV:LnkSh k V U)(g:Nat)(wb w:World)(h:NumR wb w g V)(hb:Below wb.heap.size wb w)(hg:wb.heap.size<=g):
  Calls Tryz.prog 130 #[.pointer (some ⟨g,0,none⟩)] w fun r W'=>r= .returned (.agg (lkA17 k))/\NumR wb W' g U/\w.grownBy W' (some g):=by
 have hlt:=h.lt;have HG:=zq hg;obtain⟨wa,hwa,hbwa,HWA,HBWA,h0⟩:=bx1Z w 180 #[.bool false,.int .i64 0,.bool false];obtain⟨w0,hw0⟩: ∃u,wa.alloc (.cells #[.bool false,.int .i64 0,.bool false] 180)=u:=⟨_,rfl⟩
 have hb0:Below wa.heap.size wa w0:=by rw[<-hw0];exact bA
 have hM0:Has w0 wa.heap.size 180 #[.bool false,.int .i64 0,.bool false]:=by rw[<-hw0];exact Has.made _ _ _
 obtain⟨g3,hg3⟩: ∃g,wa.heap.size=g:=⟨_,rfl⟩
 rw[hg3]at hM0;have hsz:w.heap.size<g3:=by rw[<-hg3];exact h0.lt
 have hbx:wb.heap.size<=w.heap.size:=hb.size;have hbw:Below w.heap.size w w0:=bu hbwa hb0;have HM0:=zq hM0;have HZ0:=zq (h0.u hb0);have HN0:=zq (h.under hbw);have HB0:=zq (bu hb hbw);have HW0:=zq (only_below hbw (Nat.le_refl _) (some g));have HQ0:=zq hw0;have HG3:=zq hg3;clear hwa hbwa h0 hw0 hb0 hM0 hg3 hbw h hb hg;obtain⟨d,b,oo,ra,aa,hbr,hV⟩:=hV;skip
 rcases hV with⟨c,hcr,rfl,rfl⟩|⟨rfl,rfl⟩
 ·have hD: ∃q,c*16384=q:=⟨_,rfl⟩
  obtain⟨C,hC⟩:=hD;have hwc:IntKind.i64.wrap (c*16384)=C:=by rw[IntKind.wrap_i64];omega
  have hcb:0<=C/\C<=16777216:=by omega
  have HC:=zq hC;clear hC;go_enter Tryz.func130,Tryz.ntmps130;go_upto_region 1 with fail;rw[HWA.out];clear HWA;go_upto_region 2 with fail;rw[HQ0.out];simp only[HG3.out];clear HQ0 HG3;go_wp2_with fail;refine(opskip_any (d::1::c::b::oo::ra::aa::U) 1 (by simp) g wb w0 HN0.out HB0.out HG.out).mono ?_;rintro e_ w1 ⟨rfl,hn_,hg_⟩;have hn_:NumR wb w1 g (1::c::b::oo::ra::aa::U):=hn_;have HN1:=zq hn_;have HB1:=zq (below_only HB0.out hg_ HB0.out.size HG.out);have HW1:=zq (only_trans HW0.out hg_);have HM1:=zq (HM0.out.grow hg_ (by intro e_;injection e_ with e_;omega));have HZ1:=zq (HZ0.out.grow hg_ (by intro e_;injection e_ with e_;omega));clear hn_ hg_ HN0 HB0 HW0 HM0 HZ0;go_wp2_with fail;refine(opnext_any 1 (c::b::oo::ra::aa::U) g wb w1 HN1.out HB1.out HG.out).mono ?_;rintro e_ w2 ⟨rfl,hn_,hg_⟩;have HN2:=zq hn_;have HB2:=zq (below_only HB1.out hg_ HB1.out.size HG.out);have HW2:=zq (only_trans HW1.out hg_);have HM2:=zq (HM1.out.grow hg_ (by intro e_;injection e_ with e_;omega));have HZ2:=zq (HZ1.out.grow hg_ (by intro e_;injection e_ with e_;omega));clear hn_ hg_ HN1 HB1 HW1 HM1 HZ1;have HN3:=zq (HN2.out.grow (only_row11 w2 g3 #[.bool true,.int .i64 0,.bool false]) (by intro e_;injection e_ with e_;omega));have HB3:=zq (below_row (g:=g3) HB2.out (by omega) #[.bool true,.int .i64 0,.bool false]);have HW3:=zq (grow_new17 (g:=g3) HW2.out (by omega) #[.bool true,.int .i64 0,.bool false]);have HM3:=zq (has_row11 HM2.out #[.bool true,.int .i64 0,.bool false]);have HZ3:=zq (has_rowo11 (g:=g3) HZ2.out (by omega) #[.bool true,.int .i64 0,.bool false]);obtain⟨w3,hw3⟩: ∃u,w2.setRow g3 #[.bool true,.int .i64 0,.bool false]=u:=⟨_,rfl⟩
  rw[hw3]at HN3 HB3 HW3 HM3 HZ3;have HQ3:=zq hw3;clear hw3;go_upto_region 4 with(with_reducible refine wpList_store_cell17 (o:=⟨none,_,_,_,_,_⟩) rfl 4 _ _ rfl (g3) 0 (.bool true) rfl rfl 180 #[.bool false,.int .i64 0,.bool false] HM2.out (Nat.le_of_ble_eq_true rfl) (by kernel_rfl) rfl #[.bool true,.int .i64 0,.bool false] rfl ?_)
  rw[HQ3.out];clear HQ3 HN2 HB2 HW2 HM2 HZ2;have m0:w3.cell? ⟨g3,0,none⟩=some (.bool true):=HM3.out.cell 0;go_upto_region 5 with fail;clear m0;go_wp2_with fail;refine(opnext_any c (b::oo::ra::aa::U) g wb w3 HN3.out HB3.out HG.out).mono ?_;rintro e_ w4 ⟨rfl,hn_,hg_⟩;have HN4:=zq hn_;have HB4:=zq (below_only HB3.out hg_ HB3.out.size HG.out);have HW4:=zq (only_trans HW3.out hg_);have HM4:=zq (HM3.out.grow hg_ (by intro e_;injection e_ with e_;omega));have HZ4:=zq (HZ3.out.grow hg_ (by intro e_;injection e_ with e_;omega));clear hn_ hg_ HN3 HB3 HW3 HM3 HZ3;have HN5:=zq (HN4.out.grow (only_row11 w4 g3 #[.bool true,.int .i64 C,.bool false]) (by intro e_;injection e_ with e_;omega));have HB5:=zq (below_row (g:=g3) HB4.out (by omega) #[.bool true,.int .i64 C,.bool false]);have HW5:=zq (grow_new17 (g:=g3) HW4.out (by omega) #[.bool true,.int .i64 C,.bool false]);have HM5:=zq (has_row11 HM4.out #[.bool true,.int .i64 C,.bool false]);have HZ5:=zq (has_rowo11 (g:=g3) HZ4.out (by omega) #[.bool true,.int .i64 C,.bool false]);obtain⟨w5,hw5⟩: ∃u,w4.setRow g3 #[.bool true,.int .i64 C,.bool false]=u:=⟨_,rfl⟩
  rw[hw5]at HN5 HB5 HW5 HM5 HZ5;have HQ5:=zq hw5;clear hw5;go_upto_region 6 with(with_reducible refine wpList_store_cell17 (o:=⟨none,_,_,_,_,_⟩) rfl 3 _ _ rfl (g3) 1 (.int .i64 C) rfl rfl 180 #[.bool true,.int .i64 0,.bool false] HM4.out (Nat.le_of_ble_eq_true rfl) (by kernel_rfl) rfl #[.bool true,.int .i64 C,.bool false] rfl ?_)
  rw[HQ5.out];clear HQ5 HN4 HB4 HW4 HM4 HZ4;skip;obtain⟨S,hS⟩: ∃s,C+b=s:=⟨_,rfl⟩
  have hws:IntKind.i64.wrap (C+b)=S:=by rw[IntKind.wrap_i64];omega
  have HS:=zq hS;have HWS:=zq hws;clear hS hws
  try simp only[Act.put]
  go_cut [] (fun wx=>NumR wb wx g (oo::ra::aa::U)/\Below wb.heap.size wb wx/\w.grownBy wx (some g)/\Has wx g3 180 #[.bool true,.int .i64 S,.bool false]/\Has wx (w.heap.size) 180 #[.bool false,.int .i64 0,.bool false])
  case first=>
   have HND:=zq (HN5.out.draw17);refine wp_region_held_drew (S:=(fun W_=>(w.grownBy W_ (some g))/\(Below wb.heap.size wb W_)/\(Has W_ (w.heap.size) 180 #[.bool false,.int .i64 0,.bool false]))) (by kernel_rfl) ?_ (fun hHeld=>?_)
   ·exact⟨only_draw HW5.out,below_dr11 HB5.out,HZ5.out.draw⟩
   have HM5:=zq HM5.out.draw;refine tkZ 0 16 (h:=?_);simp only[lyZ];refine tkZ 2 18 (h:=?_);simp only[lyZ];refine rdZ [1,3] (acZ (some 17) (fun K hK=>?za7) (acZ (some 19) (fun K hK=>?zb7) AllReadyH.nil))
   case' za7=>
    skip;obtain⟨s0,s1,s2⟩:=hHeld;have q_:=HM5.out.cell 1;go_simp;clear q_;refine hK.out _ _ ?_ (fun hHeld=>?_)
    ·exact⟨s0,s1,s2⟩
    clear hK K s0 s1 s2
    try simp only[lyZ]
    refine aoZ 3 (some 19) (fun K hK=>?_);go_simp;obtain⟨s0,s1,s2⟩:=hHeld;refine(opnext_any b (oo::ra::aa::U) g wb _ HND.out s1 HG.out).mono ?_;rintro e_ q1 ⟨rfl,hn_,hg_⟩;have HM5:=zq (HM5.out.grow hg_ (by intro e_;injection e_ with e_;omega));have HNX:=zq (hn_);go_wp2_with fail;refine hK.out _ _ ?_ (fun hHeld=>?_)
    ·exact⟨only_trans s0 hg_,below_only s1 hg_ s1.size HG.out,s2.grow hg_ (by intro e_;injection e_ with e_;omega)⟩
   case' zb7=>
    go_simp;obtain⟨s0,s1,s2⟩:=hHeld;refine(opnext_any b (oo::ra::aa::U) g wb _ HND.out s1 HG.out).mono ?_;rintro e_ q1 ⟨rfl,hn_,hg_⟩;have HM5:=zq (HM5.out.grow hg_ (by intro e_;injection e_ with e_;omega));have HNX:=zq (hn_);go_wp2_with fail;refine hK.out _ _ ?_ (fun hHeld=>?_)
    ·exact⟨only_trans s0 hg_,below_only s1 hg_ s1.size HG.out,s2.grow hg_ (by intro e_;injection e_ with e_;omega)⟩
    clear hK K s0 s1 s2
    try simp only[lyZ]
    refine aoZ 1 (some 17) (fun K hK=>?_);skip;obtain⟨s0,s1,s2⟩:=hHeld;have q_:=HM5.out.cell 1;go_simp;clear q_;refine hK.out _ _ ?_ (fun hHeld=>?_)
    ·exact⟨s0,s1,s2⟩
   all_goals
    clear hK K s0 s1 s2
    try simp only[lyZ]
    refine tqZ 4 20 (fun w_ ⟨s0,s1,s2⟩=>HWS.out) (h:=?_);simp only[lyZ];refine tkZ 5 21 (h:=?_);simp only[lyZ];refine aoZ 6 none (fun K hK=>?_);rw[if_pos (by rfl)];obtain⟨s0,s1,s2⟩:=hHeld;refine wp_store_cell17 3 _ _ rfl (g3) 1 (.int .i64 S) (by rfl) (by rfl) 180 #[.bool true,.int .i64 C,.bool false] HM5.out (Nat.le_of_ble_eq_true rfl) (by kernel_rfl) rfl #[.bool true,.int .i64 S,.bool false] rfl ?_;have HNX:=zq (HNX.out.grow (only_row11 _ (g3) #[.bool true,.int .i64 S,.bool false]) (by intro e_;injection e_ with e_;omega));refine hK.out _ _ ?_ (fun hHeld=>?_)
    ·exact⟨grow_new17 (g:=g3) s0 (by omega) _,below_row (g:=g3) s1 (by omega) _,has_rowo11 (g:=g3) s2 (by omega) _⟩
    have HM5:=zq (has_row11 HM5.out #[.bool true,.int .i64 S,.bool false]);clear hK K s0 s1 s2
    try simp only[Act.put]
    refine dnZ ?_;go_wp2_with fail;go_meet
    exact⟨HNX.out,hHeld.2.1,hHeld.1,HM5.out,hHeld.2.2⟩
  obtain⟨hn_,hb_,hw_,hm_,hz_⟩:=hcut;obtain⟨w6,hw6⟩: ∃u,u=wc:=⟨_,rfl⟩
  subst hw6;have HN6:=zq hn_;have HB6:=zq hb_;have HW6:=zq hw_;have HM6:=zq hm_;have HZ6:=zq hz_;clear hn_ hb_ hw_ hm_ hz_ HWS HN5 HB5 HW5 HM5 HZ5;obtain⟨OB,hOB⟩: ∃q,(oo==0)=q:=⟨_,rfl⟩
  have HOB:=zq hOB;go_wp2_with fail;refine(opnext_any oo (ra::aa::U) g wb w6 HN6.out HB6.out HG.out).mono ?_;rintro e_ w7 ⟨rfl,hn_,hg_⟩;have HN7:=zq hn_;have HB7:=zq (below_only HB6.out hg_ HB6.out.size HG.out);have HW7:=zq (only_trans HW6.out hg_);have HM7:=zq (HM6.out.grow hg_ (by intro e_;injection e_ with e_;omega));have HZ7:=zq (HZ6.out.grow hg_ (by intro e_;injection e_ with e_;omega));clear hn_ hg_ HN6 HB6 HW6 HM6 HZ6;have HN8:=zq (HN7.out.grow (only_row11 w7 g3 #[.bool true,.int .i64 S,.bool OB]) (by intro e_;injection e_ with e_;omega));have HB8:=zq (below_row (g:=g3) HB7.out (by omega) #[.bool true,.int .i64 S,.bool OB]);have HW8:=zq (grow_new17 (g:=g3) HW7.out (by omega) #[.bool true,.int .i64 S,.bool OB]);have HM8:=zq (has_row11 HM7.out #[.bool true,.int .i64 S,.bool OB]);have HZ8:=zq (has_rowo11 (g:=g3) HZ7.out (by omega) #[.bool true,.int .i64 S,.bool OB]);obtain⟨w8,hw8⟩: ∃u,w7.setRow g3 #[.bool true,.int .i64 S,.bool OB]=u:=⟨_,rfl⟩
  rw[hw8]at HN8 HB8 HW8 HM8 HZ8;have HQ8:=zq hw8;clear hw8;go_upto_region 8 with(with_reducible refine wpList_store_cell17 (o:=⟨none,_,_,_,_,_⟩) rfl 4 _ _ rfl (g3) 2 (.bool OB) rfl rfl 180 #[.bool true,.int .i64 S,.bool false] HM7.out (Nat.le_of_ble_eq_true rfl) (by kernel_rfl) rfl #[.bool true,.int .i64 S,.bool OB] rfl ?_)
  rw[HQ8.out];clear hOB HQ8 HN7 HB7 HW7 HM7 HZ7;go_wp2_with fail;refine(opskip_any (ra::aa::U) 2 (by simp) g wb w8 HN8.out HB8.out HG.out).mono ?_;rintro e_ w9 ⟨rfl,hn_,hg_⟩;have hn_:NumR wb w9 g (U):=hn_;have HN9:=zq hn_;have HB9:=zq (below_only HB8.out hg_ HB8.out.size HG.out);have HW9:=zq (only_trans HW8.out hg_);have HM9:=zq (HM8.out.grow hg_ (by intro e_;injection e_ with e_;omega));have HZ9:=zq (HZ8.out.grow hg_ (by intro e_;injection e_ with e_;omega));clear hn_ hg_ HN8 HB8 HW8 HM8 HZ8;have HR:=zq (has_row11 HZ9.out #[.bool true,.int .i64 S,.bool OB]);have HWF:=zq (grow_new17 (g:=w.heap.size) HW9.out (Nat.le_refl _) #[.bool true,.int .i64 S,.bool OB]);have HNF:=zq (HN9.out.grow (only_row11 w9 (w.heap.size) #[.bool true,.int .i64 S,.bool OB]) (by intro e_;injection e_ with e_;omega));go_wp2_with (first|(with_reducible refine ldZ 28 HM9.out ?_)|(with_reducible refine stZ #[.bool true,.int .i64 S,.bool OB] HZ9.out ?_));refine roZ HR.out ?_;exact⟨by rw[show lkA17 (⟨true,c*16384+b,oo==0⟩:Lk17)=lkA17 ⟨true,C+b,oo==0⟩from by rw[HC.out]];unfold lkA17;dsimp only;rw[HOB.out,HS.out],HNF.out,HWF.out⟩
 ·
  go_enter Tryz.func130,Tryz.ntmps130;go_upto_region 1 with fail;rw[HWA.out];clear HWA;go_upto_region 2 with fail;rw[HQ0.out];simp only[HG3.out];clear HQ0 HG3;go_wp2_with fail;refine(opskip_any (d::0::b::oo::ra::aa::U) 1 (by simp) g wb w0 HN0.out HB0.out HG.out).mono ?_;rintro e_ w1 ⟨rfl,hn_,hg_⟩;have hn_:NumR wb w1 g (0::b::oo::ra::aa::U):=hn_;have HN1:=zq hn_;have HB1:=zq (below_only HB0.out hg_ HB0.out.size HG.out);have HW1:=zq (only_trans HW0.out hg_);have HM1:=zq (HM0.out.grow hg_ (by intro e_;injection e_ with e_;omega));have HZ1:=zq (HZ0.out.grow hg_ (by intro e_;injection e_ with e_;omega));clear hn_ hg_ HN0 HB0 HW0 HM0 HZ0;go_wp2_with fail;refine(opnext_any 0 (b::oo::ra::aa::U) g wb w1 HN1.out HB1.out HG.out).mono ?_;rintro e_ w2 ⟨rfl,hn_,hg_⟩;have HN2:=zq hn_;have HB2:=zq (below_only HB1.out hg_ HB1.out.size HG.out);have HW2:=zq (only_trans HW1.out hg_);have HM2:=zq (HM1.out.grow hg_ (by intro e_;injection e_ with e_;omega));have HZ2:=zq (HZ1.out.grow hg_ (by intro e_;injection e_ with e_;omega));clear hn_ hg_ HN1 HB1 HW1 HM1 HZ1;have HN3:=zq (HN2.out.grow (only_row11 w2 g3 #[.bool false,.int .i64 0,.bool false]) (by intro e_;injection e_ with e_;omega));have HB3:=zq (below_row (g:=g3) HB2.out (by omega) #[.bool false,.int .i64 0,.bool false]);have HW3:=zq (grow_new17 (g:=g3) HW2.out (by omega) #[.bool false,.int .i64 0,.bool false]);have HM3:=zq (has_row11 HM2.out #[.bool false,.int .i64 0,.bool false]);have HZ3:=zq (has_rowo11 (g:=g3) HZ2.out (by omega) #[.bool false,.int .i64 0,.bool false]);obtain⟨w3,hw3⟩: ∃u,w2.setRow g3 #[.bool false,.int .i64 0,.bool false]=u:=⟨_,rfl⟩
  rw[hw3]at HN3 HB3 HW3 HM3 HZ3;have HQ3:=zq hw3;clear hw3;go_upto_region 4 with(with_reducible refine wpList_store_cell17 (o:=⟨none,_,_,_,_,_⟩) rfl 4 _ _ rfl (g3) 0 (.bool false) rfl rfl 180 #[.bool false,.int .i64 0,.bool false] HM2.out (Nat.le_of_ble_eq_true rfl) (by kernel_rfl) rfl #[.bool false,.int .i64 0,.bool false] rfl ?_)
  rw[HQ3.out];clear HQ3 HN2 HB2 HW2 HM2 HZ2;have m0:w3.cell? ⟨g3,0,none⟩=some (.bool false):=HM3.out.cell 0;go_upto_region 6 with fail;obtain⟨S,hS⟩: ∃s,b=s:=⟨_,rfl⟩
  have hws:IntKind.i64.wrap (b)=S:=by rw[IntKind.wrap_i64];omega
  have HS:=zq hS;have HWS:=zq hws;clear hS hws;go_cut [] (fun wx=>NumR wb wx g (oo::ra::aa::U)/\Below wb.heap.size wb wx/\w.grownBy wx (some g)/\Has wx g3 180 #[.bool false,.int .i64 S,.bool false]/\Has wx (w.heap.size) 180 #[.bool false,.int .i64 0,.bool false])
  case first=>
   have HND:=zq (HN3.out.draw17);refine wp_region_held_drew (S:=(fun W_=>(w.grownBy W_ (some g))/\(Below wb.heap.size wb W_)/\(Has W_ (w.heap.size) 180 #[.bool false,.int .i64 0,.bool false]))) (by kernel_rfl) ?_ (fun hHeld=>?_)
   ·exact⟨only_draw HW3.out,below_dr11 HB3.out,HZ3.out.draw⟩
   have HM3:=zq HM3.out.draw;refine tkZ 0 16 (h:=?_);simp only[lyZ];refine tkZ 2 18 (h:=?_);simp only[lyZ];refine rdZ [1,3] (acZ (some 17) (fun K hK=>?za8) (acZ (some 19) (fun K hK=>?zb8) AllReadyH.nil))
   case' za8=>
    skip;obtain⟨s0,s1,s2⟩:=hHeld;have q_:=HM3.out.cell 1;go_simp;clear q_;refine hK.out _ _ ?_ (fun hHeld=>?_)
    ·exact⟨s0,s1,s2⟩
    clear hK K s0 s1 s2
    try simp only[lyZ]
    refine aoZ 3 (some 19) (fun K hK=>?_);go_simp;obtain⟨s0,s1,s2⟩:=hHeld;refine(opnext_any b (oo::ra::aa::U) g wb _ HND.out s1 HG.out).mono ?_;rintro e_ q1 ⟨rfl,hn_,hg_⟩;have HM3:=zq (HM3.out.grow hg_ (by intro e_;injection e_ with e_;omega));have HNX:=zq (hn_);go_wp2_with fail;refine hK.out _ _ ?_ (fun hHeld=>?_)
    ·exact⟨only_trans s0 hg_,below_only s1 hg_ s1.size HG.out,s2.grow hg_ (by intro e_;injection e_ with e_;omega)⟩
   case' zb8=>
    go_simp;obtain⟨s0,s1,s2⟩:=hHeld;refine(opnext_any b (oo::ra::aa::U) g wb _ HND.out s1 HG.out).mono ?_;rintro e_ q1 ⟨rfl,hn_,hg_⟩;have HM3:=zq (HM3.out.grow hg_ (by intro e_;injection e_ with e_;omega));have HNX:=zq (hn_);go_wp2_with fail;refine hK.out _ _ ?_ (fun hHeld=>?_)
    ·exact⟨only_trans s0 hg_,below_only s1 hg_ s1.size HG.out,s2.grow hg_ (by intro e_;injection e_ with e_;omega)⟩
    clear hK K s0 s1 s2
    try simp only[lyZ]
    refine aoZ 1 (some 17) (fun K hK=>?_);skip;obtain⟨s0,s1,s2⟩:=hHeld;have q_:=HM3.out.cell 1;go_simp;clear q_;refine hK.out _ _ ?_ (fun hHeld=>?_)
    ·exact⟨s0,s1,s2⟩
   all_goals
    clear hK K s0 s1 s2
    try simp only[lyZ]
    refine tqZ 4 20 (fun w_ ⟨s0,s1,s2⟩=>HWS.out) (h:=?_);simp only[lyZ];refine tkZ 5 21 (h:=?_);simp only[lyZ];refine aoZ 6 none (fun K hK=>?_);rw[if_pos (by rfl)];obtain⟨s0,s1,s2⟩:=hHeld;refine wp_store_cell17 3 _ _ rfl (g3) 1 (.int .i64 S) (by rfl) (by rfl) 180 #[.bool false,.int .i64 0,.bool false] HM3.out (Nat.le_of_ble_eq_true rfl) (by kernel_rfl) rfl #[.bool false,.int .i64 S,.bool false] rfl ?_;have HNX:=zq (HNX.out.grow (only_row11 _ (g3) #[.bool false,.int .i64 S,.bool false]) (by intro e_;injection e_ with e_;omega));refine hK.out _ _ ?_ (fun hHeld=>?_)
    ·exact⟨grow_new17 (g:=g3) s0 (by omega) _,below_row (g:=g3) s1 (by omega) _,has_rowo11 (g:=g3) s2 (by omega) _⟩
    have HM3:=zq (has_row11 HM3.out #[.bool false,.int .i64 S,.bool false]);clear hK K s0 s1 s2
    try simp only[Act.put]
    refine dnZ ?_;go_wp2_with fail;go_meet
    exact⟨HNX.out,hHeld.2.1,hHeld.1,HM3.out,hHeld.2.2⟩
  obtain⟨hn_,hb_,hw_,hm_,hz_⟩:=hcut;obtain⟨w4,hw4⟩: ∃u,u=wc:=⟨_,rfl⟩
  subst hw4;have HN4:=zq hn_;have HB4:=zq hb_;have HW4:=zq hw_;have HM4:=zq hm_;have HZ4:=zq hz_;clear hn_ hb_ hw_ hm_ hz_ HWS HN3 HB3 HW3 HM3 HZ3;obtain⟨OB,hOB⟩: ∃q,(oo==0)=q:=⟨_,rfl⟩
  have HOB:=zq hOB;go_wp2_with fail;refine(opnext_any oo (ra::aa::U) g wb w4 HN4.out HB4.out HG.out).mono ?_;rintro e_ w5 ⟨rfl,hn_,hg_⟩;have HN5:=zq hn_;have HB5:=zq (below_only HB4.out hg_ HB4.out.size HG.out);have HW5:=zq (only_trans HW4.out hg_);have HM5:=zq (HM4.out.grow hg_ (by intro e_;injection e_ with e_;omega));have HZ5:=zq (HZ4.out.grow hg_ (by intro e_;injection e_ with e_;omega));clear hn_ hg_ HN4 HB4 HW4 HM4 HZ4;have HN6:=zq (HN5.out.grow (only_row11 w5 g3 #[.bool false,.int .i64 S,.bool OB]) (by intro e_;injection e_ with e_;omega));have HB6:=zq (below_row (g:=g3) HB5.out (by omega) #[.bool false,.int .i64 S,.bool OB]);have HW6:=zq (grow_new17 (g:=g3) HW5.out (by omega) #[.bool false,.int .i64 S,.bool OB]);have HM6:=zq (has_row11 HM5.out #[.bool false,.int .i64 S,.bool OB]);have HZ6:=zq (has_rowo11 (g:=g3) HZ5.out (by omega) #[.bool false,.int .i64 S,.bool OB]);obtain⟨w6,hw6⟩: ∃u,w5.setRow g3 #[.bool false,.int .i64 S,.bool OB]=u:=⟨_,rfl⟩
  rw[hw6]at HN6 HB6 HW6 HM6 HZ6;have HQ6:=zq hw6;clear hw6;go_upto_region 8 with(with_reducible refine wpList_store_cell17 (o:=⟨none,_,_,_,_,_⟩) rfl 4 _ _ rfl (g3) 2 (.bool OB) rfl rfl 180 #[.bool false,.int .i64 S,.bool false] HM5.out (Nat.le_of_ble_eq_true rfl) (by kernel_rfl) rfl #[.bool false,.int .i64 S,.bool OB] rfl ?_)
  rw[HQ6.out];clear hOB HQ6 HN5 HB5 HW5 HM5 HZ5;go_wp2_with fail;refine(opskip_any (ra::aa::U) 2 (by simp) g wb w6 HN6.out HB6.out HG.out).mono ?_;rintro e_ w7 ⟨rfl,hn_,hg_⟩;have hn_:NumR wb w7 g (U):=hn_;have HN7:=zq hn_;have HB7:=zq (below_only HB6.out hg_ HB6.out.size HG.out);have HW7:=zq (only_trans HW6.out hg_);have HM7:=zq (HM6.out.grow hg_ (by intro e_;injection e_ with e_;omega));have HZ7:=zq (HZ6.out.grow hg_ (by intro e_;injection e_ with e_;omega));clear hn_ hg_ HN6 HB6 HW6 HM6 HZ6;have HR:=zq (has_row11 HZ7.out #[.bool false,.int .i64 S,.bool OB]);have HWF:=zq (grow_new17 (g:=w.heap.size) HW7.out (Nat.le_refl _) #[.bool false,.int .i64 S,.bool OB]);have HNF:=zq (HN7.out.grow (only_row11 w7 (w.heap.size) #[.bool false,.int .i64 S,.bool OB]) (by intro e_;injection e_ with e_;omega));go_wp2_with (first|(with_reducible refine ldZ 28 HM7.out ?_)|(with_reducible refine stZ #[.bool false,.int .i64 S,.bool OB] HZ7.out ?_));refine roZ HR.out ?_;exact⟨by rw[show lkA17 (⟨false,b,oo==0⟩:Lk17)=lkA17 ⟨false,b,oo==0⟩from rfl];unfold lkA17;dsimp only;rw[HOB.out,HS.out],HNF.out,HWF.out⟩
theorem SlK.pk17 {w:World}{A:Option Addr}{n c:Nat}{l:List PkE}(h:SlK w A n c l){j:Nat}{x:PkE}(hx:l[j]?=some x):
  ∃b off,A=some ⟨b,off,none⟩/\w.cell? ⟨b,off+j*2,none⟩=some (.int .i64 x.id)/\w.cell? ⟨b,off+j*2+1,none⟩=some (.slice x.A x.n x.c):=by
 obtain⟨hj,rfl⟩:=List.getElem?_eq_some_iff.1 hx;exact h.at_ hj
theorem oix_pk17 (p:PkE->Bool)(l:List PkE)(A:Option Addr)(n c:Nat)(w:World)(hs:SlK w A n c l)(hbig:n<=1048576)
  (HE:Hid (∀(x:PkE) W,Below w.heap.size w W->Calls Tryz.prog 129 #[.agg #[.int .i64 x.id,.slice x.A x.n x.c]] W fun e w'=>e= .returned (.bool (p x))/\Below W.heap.size W w')):
  Calls Tryz.prog 128 #[.slice A n c,.func (.func 129) #[] #[]] w fun e w'=>e= .returned (.int .i64 (idxL p l))/\Below w.heap.size w w':=by
 have HN:Hid (l.length=n):=zq hs.len;have HW:=zq hs;clear hs;have x0:(0:Int)<=n:=by omega
 obtain⟨R,hR⟩:=geZ (idxL p l);have HR:=zq hR;rw[hR];clear hR;go_enter Tryz.func128,Tryz.ntmps128;go_wp2;go_loopg [8] n (fun kk v wl=> ∃j:Nat,j<=n/\n-j<=kk/\v= .int .i64 j/\Hid (∀i x,i<j->l[i]?=some x->p x=false)/\Hid (Below w.heap.size w wl))
 case atStart=>exact⟨0,by omega,by omega,rfl,zq fun i x h=>absurd h (by omega),zq (Below.refl _ _)⟩
 obtain⟨j,hj,hjk,rfl,HNO,HBL⟩:=hrel;by_cases hlt:j<n
 ·obtain⟨x,hx⟩:=glZ l (j) (by rw[HN.out];omega)
  obtain⟨bk,off,rfl,d0,d1⟩:=(HW.out.under HBL.out).pk17 hx;have HX:=zq hx;have y0:(0:Int)<=j:=by omega
  have y1:(j:Int)<n:=by omega
  have HC:=zq (HE.out x wr HBL.out);clear hx;generalize hb:p x=b at*;have HBE:=zq hb;clear hb
  cases b with
  |true=>
   have HF:Hid (R=j):=zq (by rw[<-HR.out];exact idx_hit HX.out HBE.out HNO.out);go_upto_region 4 with fail;go_wp2_with fail;refine HC.out.mono ?_;rintro e w1 ⟨rfl,hb1⟩;have HB1:=tB HBL hb1;clear hb1 d0 d1 HBE HNO;go_wp2;go_ret
   exact⟨by rw[HF.out];rfl,HB1.out⟩
  |false=>
   go_upto_region 4 with fail;go_wp2_with fail;refine HC.out.mono ?_;rintro e w1 ⟨rfl,hb1⟩;have HB1:=tB HBL hb1;have HN2:Hid (∀i y,i<j+1->l[i]?=some y->p y=false):=zq fun i y hi hy=>by
    by_cases h:i=j
    ·subst h;rw[HX.out]at hy;cases hy;exact HBE.out
    ·exact HNO.out i y (by omega) hy
   clear hb1 d0 d1 HBE HNO;go_wp2;go_roundg (gk-1)
   case measure=>omega
   case rel=>exact⟨j+1,by omega,by omega,by go_num,HN2,HB1⟩
 ·have y1: ¬(j:Int)<n:=by omega
  have HF:Hid (R= -1):=zq (by rw[<-HR.out];exact idx_miss fun i y hi hy=>HNO.out i y (by have:=HN.out;omega) hy);go_wp2;go_ret
  exact⟨by rw[HF.out];rfl,HBL.out⟩
theorem oprl1_any (id:Int)(A:Option Addr)(n c:Nat)(w:World):Calls Tryz.prog 129 #[.agg #[.int .i64 id,.slice A n c]] w fun e w'=>e= .returned (.bool (id==5))/\Below w.heap.size w w':=by
 obtain⟨wa,hwa,hbwa,HWA,HBWA,h0⟩:=bx1Z w 98 #[.int .i64 id,.slice A n c];have c0:wa.cell? ⟨w.heap.size,0,none⟩=some (.int .i64 id):=h0.cell 0;clear hwa hbwa h0;obtain⟨q,hq⟩:=geZ ((id==5));rw[hq];go_enter Tryz.func129,Tryz.ntmps129;go_upto_region 1 with fail;rw[HWA.out];clear HWA;go_wp2;go_ret
 exact⟨by first|rfl|(rw[hq];done)|simp_all,HBWA.out⟩
def LinksP (l:List PkE)(ks:List Lk17):Prop:=match (pkPlain l).find? fun q=>q.1==5 with
 |none=>ks=[]
 |some q=> ∀(t:Tp3) (path:List St3),linkedE t path q.2=followE t path ks
theorem plain_find17 (l:List PkE):(pkPlain l).find? (fun q=>q.1==5)=(l.find? fun p=>p.id==5).map fun p=>(p.id,p.V):=by
 unfold pkPlain;rw[List.find?_map]
 rfl
theorem oprdlinks_any (l:List PkE)(A:Option Addr)(n c:Nat)(w:World)(hs:SlK w A n c l)(hn:n<=30)(hv: ∀p∈l,p.n<=3000)(hok: ∀p∈l,itemsOk (p.id,p.V)=true):
  Calls Tryz.prog 66 #[.slice A n c] w fun r w'=> ∃(ks:List Lk17) (B:Option Addr) (m d:Nat),r= .returned (.slice B m d)/\SlO lkC17 3 w' B m d ks/\m<=32/\LinksP l ks/\Below w.heap.size w w':=by
 have HE:Hid (∀(x:PkE) W,Below w.heap.size w W->Calls Tryz.prog 129 #[.agg #[.int .i64 x.id,.slice x.A x.n x.c]] W fun e w'=>e= .returned (.bool (x.id==5))/\Below W.heap.size W w'):=zq fun x W _=>oprl1_any x.id x.A x.n x.c W;have HIX:=zq (oix_pk17 (fun x=>x.id==5) l A n c w hs (by omega) HE);have hfi:=idx_find (fun x:PkE=>x.id==5) l;have HPF:=zq (plain_find17 l);have HLN:=zq hs.len
 rcases hfi with⟨h1,h2⟩|⟨j,y,h1,h2,h3⟩
 ·rw[h1]at HIX
  have HLP:=zq (show LinksP l []from by unfold LinksP;rw[HPF.out,h2];rfl);clear h1 h2 hs hn hv hok HE HPF;go_enter Tryz.func66,Tryz.ntmps66;go_wp2_with fail;refine HIX.out.mono ?_;rintro e_ w1 ⟨rfl,hb1⟩;have HB1:=zq hb1;clear hb1 HIX;go_wp2;go_ret
  exact⟨[],none,0,0,rfl,SlO.nil _ _ _,by omega,HLP.out,HB1.out⟩
 ·rw[h2]at HIX
  have hy:=List.mem_of_getElem? h1;have hid5:y.id=5:=by have h4:=List.find?_some h3;simpa using h4
  have hyk:=hok y hy;rw[hid5]at hyk;obtain⟨dd,uu,R0,R1,nn,k0,ks,hyV,hk0,hnr,hks,hkr⟩:=five_shape17 hyk;have HLP:=zq (show LinksP l (k0::ks)from by unfold LinksP;rw[HPF.out,h3];show∀(t:Tp3) (path:List St3),linkedE t path y.V=followE t path (k0::ks);intro t path;rw[hyV];exact(follow_linked17 hk0 hks hkr).symm);obtain⟨N,hN⟩: ∃N:Nat,nn=(N:Int):=⟨nn.toNat,by omega⟩
  subst hN;have hyS:=hs.each y hy;have HYS:=zq (fun W (hW:Below w.heap.size w W)=>(⟨hyS.len,by rw[flat_ints17];exact hyS.sl.under hW⟩:SlO inC 1 W y.A y.n y.c y.V));have HYC:=zq (show y.n<=y.c/\y.n<=10000 from⟨hyS.cap,by have:=hv y hy;omega⟩);have HSK:=zq (fun W (hW:Below w.heap.size w W)=>(hs.under hW).pk17 h1);have hjn:j<n:=by rw[<-hs.len];exact(List.getElem?_eq_some_iff.1 h1).1
  have HK0:=zq hk0;have HKR:=zq hkr;have HNB:=zq (show N<=31/\ks.length=N from by omega);have hj30:j<30:=by omega
  rw[hyV]at HYS;clear h1 h2 h3 hy hid5 hyk hyV hk0 hnr hks hkr hyS hs hn hv hok HE HPF HLN;go_enter Tryz.func66,Tryz.ntmps66;go_wp2_with fail;refine HIX.out.mono ?_;rintro e_ w1 ⟨rfl,hb1⟩;have HB1:=zq hb1;obtain⟨bk,off,rfl,e0,e1⟩:=HSK.out w1 hb1;clear hb1 HIX HSK;have x1:(0:Int)<=j:=by omega
  have x2:(j:Int)<n:=by omega
  have q1:decide ((j:Int)<0)=false:=decide_eq_false (by omega);obtain⟨w2,hw2⟩: ∃u,w1.alloc (.cells #[.slice y.A y.n y.c] 172)=u:=⟨_,rfl⟩
  have hb2:Below w1.heap.size w1 w2:=by rw[<-hw2];exact bA
  have hH2:Has w2 w1.heap.size 172 #[.slice y.A y.n y.c]:=by rw[<-hw2];exact Has.made _ _ _
  obtain⟨g,hg⟩:=geZ (w1.heap.size);rw[hg]at hH2;have HN2:=zq (show NumR w w2 g (dd::uu::R0)from⟨y.A,y.n,y.c,hH2,HYS.out,HYC.out.1,HYC.out.2⟩);have HG:=zq (show w.heap.size<=g from by rw[<-hg];exact HB1.out.size);have HB2:=tB HB1 hb2;have HW2:=zq hw2;have HGQ:=zq hg;clear hw2 hb2 hH2 hg HYS HYC;go_upto_region 5 with fail;rw[HW2.out];simp only[HGQ.out];clear HW2 HGQ e0 e1 x1 x2 q1 hjn hj30 HB1;go_wp2_with fail;refine(opskip_any (dd::uu::R0) 2 (by simp) g w w2 HN2.out HB2.out HG.out).mono ?_;rintro e_ w3 ⟨rfl,hn_,hg_⟩;have HN3:=zq (show NumR w w3 g R0 from hn_);have HB3:=zq (below_only HB2.out hg_ HB2.out.size HG.out);clear hn_ hg_ HN2 HB2;go_wp2_with fail;refine(oprdlink_any k0 R0 _ HK0.out g w w3 HN3.out HB3.out HG.out).mono ?_;unfold lkA17;rintro e_ w4 ⟨rfl,hn_,hg_⟩;have HN4:=zq hn_;have HB4:=zq (below_only HB3.out hg_ HB3.out.size HG.out);clear hn_ hg_ HN3 HB3;obtain⟨w5,hw5⟩: ∃u,w4.alloc (.cells #[.bool k0.told,.int .i64 k0.group,.bool k0.rev] 180)=u:=⟨_,rfl⟩
  have hb5:Below w4.heap.size w4 w5:=by rw[<-hw5];exact bA
  have HO5:=zq (show OwR lkC17 3 180 w.heap.size w5 (some ⟨w4.heap.size,0,none⟩) 1 1 [k0]from by rw[<-hw5];exact⟨World.ownsRow_lit (base:=w.heap.size) (e:=180) (size:=3) w4 #[.bool k0.told,.int .i64 k0.group,.bool k0.rev] 1 HB4.out.size (by unfold maxLen;omega) rfl,rfl⟩);have HN5:=zq (HN4.out.under hb5);have HB5:=tB HB4 hb5;have HW5:=zq hw5;clear hw5 hb5 HN4 HB4;go_upto_region 7 with fail;rw[HW5.out];clear HW5;go_wp2_with fail;refine(opnext_any (N:Int) R1 g w w5 HN5.out HB5.out HG.out).mono ?_;rintro e_ w6 ⟨rfl,hn_,hg_⟩;have HN6:=zq hn_;have HB6:=zq (below_only HB5.out hg_ HB5.out.size HG.out);have HO6:=zq (HO5.out.kept hg_ (.inr (by obtain⟨A_,n_,c_,hh_,_⟩:=HN5.out;exact HO5.out.apart hh_ (by decide))));clear hn_ hg_ HN5 HB5 HO5;have hnb:N<=31:=HNB.out.1;go_wp2;go_loopg [5,20] N (fun kk v5 v20 wl=> ∃(i:Nat) (B:Option Addr) (d:Nat) (q:List Lk17) (W:List Int),i<=N/\N-i<=kk/\v20= .int .i64 i/\v5= .slice B (i+1) d/\Hid (q=k0::ks.take i)/\Hid (OwR lkC17 3 180 w.heap.size wl B (i+1) d q)/\Hid (NumR w wl g W)/\Hid (LnksSh (ks.drop i) W [])/\Hid (Below w.heap.size w wl))
  case atStart=>exact⟨0,_,1,[k0],R1,by omega,by omega,rfl,rfl,zq rfl,HO6,HN6,HKR,HB6⟩
  clear HO6 HN6 HKR HB6;obtain⟨i,B,d,q,W,hi,hik,rfl,rfl,HQI,HO,HNW,HLS,HB⟩:=hrel;obtain⟨k1,hk1⟩: ∃k1,k1=gk:=⟨_,rfl⟩
  subst hk1;obtain⟨wv,hwv⟩: ∃wv,wv=wr:=⟨_,rfl⟩
  subst hwv;by_cases hlt:i<N;rotate_left
  ·obtain rfl:i=N:=by omega
   have y1: ¬(i:Int)<i:=by omega
   have HKS:=zq (show q=k0::ks from by rw[HQI.out,List.take_of_length_le (by rw[HNB.out.2];exact Nat.le_refl _)]);have HMB:=zq (show i+1<=32 from by omega);go_wp2;go_ret
   exact⟨k0::ks,B,i+1,d,rfl,by rw[<-HKS.out];exact HO.out.sl,HMB.out,HLP.out,HB.out⟩
  ·obtain⟨kk_,hkk⟩: ∃q,ks[i]?=some q:=⟨_,List.getElem?_eq_getElem (by rw[HNB.out.2];exact hlt)⟩
   have hls:=HLS.out;rw[drop_at15 hkk]at hls;obtain⟨W2,hkW,hrs⟩:=hls;have HTK:=zq (show q++[kk_]=k0::ks.take (i+1)from by rw[HQI.out,List.take_add_one,hkk];rfl);have HKW:=zq hkW;have HRS:=zq hrs;have x1:(i:Int)<N:=by omega
   have x2:(0:Int)<=i:=by omega
   have HIN:=zq (show i<N/\N-i<=k1 from⟨hlt,hik⟩);clear hkk hkW hrs hi hik hlt HLS;go_wp2_with fail;refine(oprdlink_any kk_ W _ HKW.out g w wv HNW.out HB.out HG.out).mono ?_;unfold lkA17;rintro e_ w7 ⟨rfl,hn_,hg_⟩;have HN7:=zq hn_;have HB7:=zq (below_only HB.out hg_ HB.out.size HG.out);have HO7:=zq (HO.out.kept hg_ (.inr (by obtain⟨A_,n_,c_,hh_,_⟩:=HNW.out;exact HO.out.apart hh_ (by decide))));clear hn_ hg_ HNW HB HO HKW;obtain⟨t_,gr_,rv_⟩:=kk_;dsimp only at*;have hib:=HIN.out.1;have hnb:=HNB.out.1;obtain⟨hO,hSL,h1,hBD⟩:=pourR 24 (HO7.out.under ((Below.refl _ _).alloc (Nat.le_refl _) (.cells #[.bool t_,.int .i64 gr_,.bool rv_] 180))) (⟨rfl,sl_hasR (Has.made _ _ _) rfl⟩:SlO lkC17 3 (w7.alloc (.cells #[.bool t_,.int .i64 gr_,.bool rv_] 180)) (some ⟨w7.heap.size,0,none⟩) 1 1 [⟨t_,gr_,rv_⟩]) one_lk17 (Nat.le_trans HB7.out.size (by simp)) (by omega) (by omega);go_wp2_with (with_reducible refine wpList_pour (o:=⟨some 25,_,_,_,_,_⟩) rfl (.tmp 22) (.tmp 24) 104 rfl w.heap.size 180 (.agg #[.bool false,.int .i64 0,.bool false]) 3 24 Tryz.underlying104 info_lk17 ?hz1 (by decide) B (i+1) d _ ?hs1 hO (some ⟨w7.heap.size,0,none⟩) 1 1 _ ?hx1 hSL h1 hBD ?next1)
   all_goals try rfl
   intro B8 d8 w8 ho8 hg8;have HO8:=zq (show OwR lkC17 3 180 w.heap.size w8 B8 (i+1+1) d8 (q++[⟨t_,gr_,rv_⟩])from OwR.poured (l':=[⟨t_,gr_,rv_⟩]) HO7.out.2 rfl ho8.out);have HB8:=zq (below_own (HB7.out.trans ((bA).mono HB7.out.size)) (Nat.le_trans HB7.out.size (by simp)) hO.out (Nat.le_refl _) rfl hg8.out);have HN8:=zq ((HN7.out.under ((Below.refl _ _).alloc (Nat.le_refl _) (.cells #[.bool t_,.int .i64 gr_,.bool rv_] 180))).grow hg8.out (by obtain⟨A_,n_,c_,hh_,_⟩:=HN7.out;exact Ne.symm (OwR.apart (show OwR lkC17 3 180 w.heap.size _ B (i+1) d q from⟨hO.out,HO7.out.2⟩) (hh_.beside _) (by decide))));clear ho8 hg8 hO hSL h1 hBD HO7 HB7 HN7 hib hnb;go_wp2;go_roundg (k1-1)
   case measure=>have:=HIN.out;omega
   case rel=>exact⟨i+1,B8,d8,q++[⟨t_,gr_,rv_⟩],W2,by have:=HIN.out;omega,by have:=HIN.out;omega,by first|go_num|(rw[IntWalk.wrap64_in _ (by have h1_:=HIN.out;have h2_:=HNB.out;omega)];go_num),rfl,HTK,HO8,HN8,HRS,HB8⟩
end
section
open Go.RowKit
def omPts (l:List Pt):List Pt:=plainPts [6,7,8]++(l++([.mk 27 0 (l++[])]++[]))
def reportPts (gs:List Nat):List Pt:=plainPts [7,8]++(plainPts gs++(plainPts [13,14,15,16,17]++([.mk 18 2 (plainPts [19])]++(plainPts [20,21,22]++([.mk 23 1 (plainPts [24])]++[])))))
theorem cat_lit (lo:Nat)(L:List PlT)(w:World)(hn:L.length<=100)(hx: ∀x∈L,Parts lo w.heap.size w x.1 x.2.1 x.2.2.1 x.2.2.2/\x.2.1<=100)(hlo:lo<=w.heap.size):
  Calls Tryz.prog 244 #[.slice (some ⟨w.heap.size,0,none⟩) L.length L.length] (w.alloc (.cells (pls L).toArray 252)) fun e w'=> ∃A' n' c',e= .returned (.slice A' n' c')/\Parts lo w'.heap.size w' A' n' c' (ptsOf L)/\Below w.heap.size w w':=
 (concat_lit lo L w hn hx hlo).mono fun _ _ ⟨A',c',h1,h2,h3⟩=>⟨A',_,c',h1,h2,h3⟩
theorem ifAny_lit (lo v k:Nat)(vs:List Nat)(w:World)(hk:k≠0)(hn:vs.length<=100)(hlo:lo<=w.heap.size):
  Calls Tryz.prog 261 #[.int .i64 (v:Int),.slice (some ⟨w.heap.size,0,none⟩) (onlyOf k).length (onlyOf k).length,.slice (some ⟨w.heap.size+1,0,none⟩) vs.length vs.length] ((w.alloc (.cells (nats (onlyOf k)).toArray 3)).alloc (.cells (nats vs).toArray 3)) fun e w'=> ∃A' c',e= .returned (.slice A' 1 c')/\Parts lo w'.heap.size w' A' 1 c' [.mk v k (plainPts vs)]/\Below w.heap.size w w':=by
 have h1:=slz_made lo w 3 (nats (onlyOf k)) (onlyOf k).length (by simp[nats]) hlo;have hb:Below w.heap.size w (w.alloc (.cells (nats (onlyOf k)).toArray 3)):=(Below.refl _ w).alloc (Nat.le_refl _) _;have hsz:(w.alloc (.cells (nats (onlyOf k)).toArray 3)).heap.size=w.heap.size+1:=by simp
 have hlo1:lo<=(w.alloc (.cells (nats (onlyOf k)).toArray 3)).heap.size:=Nat.le_trans hlo hb.size;generalize w.alloc (.cells (nats (onlyOf k)).toArray 3)=w1 at*;rw[<-hsz];have h2:=slz_made lo w1 3 (nats vs) vs.length (by simp[nats]) hlo1;have hb1:Below w1.heap.size w1 (w1.alloc (.cells (nats vs).toArray 3)):=(Below.refl _ w1).alloc (Nat.le_refl _) _;have h3:=h1.keep (zone_below hb1) (Nat.le_refl _) hb1.size;refine(ifAny_parts lo v k _ _ _ vs.length vs.length vs _ hk h3 h2.sl hn (Nat.le_trans hlo1 hb1.size)).mono ?_;rintro e w' ⟨A',c',rfl,hp,hb2⟩;exact⟨A',c',rfl,hp,(bu hb hb1).trans (hb2.mono (bu hb hb1).size)⟩
theorem oneOrMore_parts (lo:Nat)(A:Option Addr)(n c:Nat)(L:List PlT)(w0:World)(hs:Sl w0 1 A n c (pls L))(hn:n<=100)(hx: ∀x∈L,Parts lo w0.heap.size w0 x.1 x.2.1 x.2.2.1 x.2.2.2/\x.2.1<=100)(hlo:lo<=w0.heap.size)(hsum:(ptsOf L).length<=50):
  Calls Tryz.prog 247 #[.slice A n c] w0 fun e w'=> ∃A' n' c',e= .returned (.slice A' n' c')/\Parts lo w'.heap.size w' A' n' c' (omPts (ptsOf L))/\Below w0.heap.size w0 w':=by
 have HB0:=zq (Below.refl w0.heap.size w0);have HC:=zq (concat_parts lo A n c L w0 hs hn hx hlo);have HSM:=zq hsum;clear hs hx hsum;generalize ptsOf L=l at*;generalize numOf L=nl at*;go_enter Tryz.func247,Tryz.ntmps247;go_wp2_with fail;refine HC.out.mono ?_;rintro e w1 ⟨Al,cl,rfl,hp,hb⟩;have HNL:Hid (nl<=100):=zq (by rw[<-hp.len];have:=HSM.out;omega);have HB1:=zq hb;have HPL1:=zq hp;clear hp hb HC HB0;have HC:Hid (Calls Tryz.prog 245 #[.slice (some ⟨w1.heap.size,0,none⟩) 3 3] (w1.alloc (.cells #[.int .i64 6,.int .i64 7,.int .i64 8] 3)) fun e w'=> ∃A' c',e= .returned (.slice A' 3 c')/\Parts lo w'.heap.size w' A' 3 c' (plainPts [6,7,8])/\Below w1.heap.size w1 w'):=plain_lit lo [6,7,8] w1 (by decide) (Nat.le_trans hlo HB1.out.size);go_wp2_with fail;refine HC.out.mono ?_;rintro e w2 ⟨A1,c1,rfl,hp,hb⟩;have HB2:=tB HB1 hb;have HPL2:=zq (HPL1.out.under hb);have HP2:=zq hp;clear hp hb HC HB1 HPL1;have HC:Hid (Calls Tryz.prog 246 #[.slice (some ⟨w2.heap.size,0,none⟩) 1 1] (w2.alloc (.cells #[.slice Al nl cl] 252)) fun e w'=> ∃A' c',e= .returned (.slice A' 1 c')/\Parts lo w'.heap.size w' A' 1 c' [.mk 27 0 (l++[])]/\Below w2.heap.size w2 w'):=iter_lit lo [(Al,nl,cl,l)] w2 (by simp) (fun x hx=>by simp only[List.mem_cons,List.not_mem_nil,or_false]at hx;subst hx;exact⟨HPL2.out,HNL.out⟩) (Nat.le_trans hlo HB2.out.size);go_wp2_with fail;refine HC.out.mono ?_;rintro e w3 ⟨A2,c2,rfl,hp,hb⟩;have HB3:=tB HB2 hb;have HPL3:=zq (HPL2.out.under hb);have HP3:=zq (HP2.out.under hb);have HQ3:=zq hp;clear hp hb HC HB2 HPL2 HP2;have HC:Hid (Calls Tryz.prog 244 #[.slice (some ⟨w3.heap.size,0,none⟩) 3 3] (w3.alloc (.cells #[.slice A1 3 c1,.slice Al nl cl,.slice A2 1 c2] 252)) fun e w'=> ∃A' n' c',e= .returned (.slice A' n' c')/\Parts lo w'.heap.size w' A' n' c' (omPts l)/\Below w3.heap.size w3 w'):=cat_lit lo [(A1,3,c1,plainPts [6,7,8]),(Al,nl,cl,l),(A2,1,c2,[.mk 27 0 (l++[])])] w3 (by simp) (fun x hx=>by
  simp only[List.mem_cons,List.not_mem_nil,or_false]at hx
  rcases hx with rfl|rfl|rfl
  ·exact⟨HP3.out,by show(3:Nat)<=100;omega⟩
  ·exact⟨HPL3.out,HNL.out⟩
  ·exact⟨HQ3.out,by show(1:Nat)<=100;omega⟩) (Nat.le_trans hlo HB3.out.size)
 go_wp2_with fail;refine HC.out.mono ?_;rintro e w4 ⟨A4,n4,c4,rfl,hp,hb⟩;have HB4:=tB HB3 hb;have HP4:=zq hp;clear hp hb HC HB3 HPL3 HP3 HQ3;go_wp2;go_ret
 exact⟨A4,n4,c4,rfl,HP4.out,HB4.out⟩
theorem oneOrMore_lit (lo:Nat)(L:List PlT)(w:World)(hn:L.length<=100)(hx: ∀x∈L,Parts lo w.heap.size w x.1 x.2.1 x.2.2.1 x.2.2.2/\x.2.1<=100)(hlo:lo<=w.heap.size)(hsum:(ptsOf L).length<=50):
  Calls Tryz.prog 247 #[.slice (some ⟨w.heap.size,0,none⟩) L.length L.length] (w.alloc (.cells (pls L).toArray 252)) fun e w'=> ∃A' n' c',e= .returned (.slice A' n' c')/\Parts lo w'.heap.size w' A' n' c' (omPts (ptsOf L))/\Below w.heap.size w w':=by
 refine(oneOrMore_parts lo _ L.length _ L _ (slz_made lo w _ (pls L) L.length (by simp[pls]) hlo).sl hn (fun x h=>⟨(hx x h).1.beside _,(hx x h).2⟩) (by simp;omega) hsum).mono ?_;rintro e w' ⟨A',n',c',rfl,hp,hb⟩;exact⟨A',n',c',rfl,hp,((Below.refl _ w).alloc (Nat.le_refl _) _).trans (hb.mono (by simp))⟩
theorem report_parts (lo:Nat)(A:Option Addr)(n c:Nat)(gs:List Nat)(w0:World)(hs:Sl w0 1 A n c (nats gs))(hn:n<=10)(hlo:lo<=w0.heap.size):
  Calls Tryz.prog 243 #[.slice A n c] w0 fun e w'=> ∃A' n' c',e= .returned (.slice A' n' c')/\Parts lo w'.heap.size w' A' n' c' (reportPts gs)/\Below w0.heap.size w0 w':=by
 have HB0:=zq (Below.refl w0.heap.size w0);have HGS:=zq hs;clear hs;go_enter Tryz.func243,Tryz.ntmps243;have HC:Hid (Calls Tryz.prog 245 #[.slice (some ⟨w0.heap.size,0,none⟩) 2 2] (w0.alloc (.cells #[.int .i64 7,.int .i64 8] 3)) fun e w'=> ∃A' c',e= .returned (.slice A' 2 c')/\Parts lo w'.heap.size w' A' 2 c' (plainPts [7,8])/\Below w0.heap.size w0 w'):=plain_lit lo [7,8] w0 (by decide) (Nat.le_trans hlo HB0.out.size);go_wp2_with fail;refine HC.out.mono ?_;rintro e w1 ⟨A0,c0,rfl,hp,hb⟩;have HB1:=tB HB0 hb;have HP0_1:=zq hp;clear hp hb HC HB0;have HC:=zq (plain_parts lo A n c gs w1 (HGS.out.under HB1.out) (by omega) (Nat.le_trans hlo HB1.out.size));go_wp2_with fail;refine HC.out.mono ?_;rintro e w2 ⟨A1,c1,rfl,hp,hb⟩;have HB2:=tB HB1 hb;have HP0_2:=zq (HP0_1.out.under hb);have HP1_2:=zq hp;clear hp hb HC HB1 HP0_1;have HC:Hid (Calls Tryz.prog 245 #[.slice (some ⟨w2.heap.size,0,none⟩) 5 5] (w2.alloc (.cells #[.int .i64 13,.int .i64 14,.int .i64 15,.int .i64 16,.int .i64 17] 3)) fun e w'=> ∃A' c',e= .returned (.slice A' 5 c')/\Parts lo w'.heap.size w' A' 5 c' (plainPts [13,14,15,16,17])/\Below w2.heap.size w2 w'):=plain_lit lo [13,14,15,16,17] w2 (by decide) (Nat.le_trans hlo HB2.out.size);go_wp2_with fail;refine HC.out.mono ?_;rintro e w3 ⟨A2,c2,rfl,hp,hb⟩;have HB3:=tB HB2 hb;have HP0_3:=zq (HP0_2.out.under hb);have HP1_3:=zq (HP1_2.out.under hb);have HP2_3:=zq hp;clear hp hb HC HB2 HP0_2 HP1_2;have HC:Hid (Calls Tryz.prog 261 #[.int .i64 18,.slice (some ⟨w3.heap.size,0,none⟩) 2 2,.slice (some ⟨w3.heap.size+1,0,none⟩) 1 1] ((w3.alloc (.cells #[.int .i64 1,.int .i64 2] 3)).alloc (.cells #[.int .i64 19] 3)) fun e w'=> ∃A' c',e= .returned (.slice A' 1 c')/\Parts lo w'.heap.size w' A' 1 c' [.mk 18 2 (plainPts [19])]/\Below w3.heap.size w3 w'):=ifAny_lit lo 18 2 [19] w3 (by decide) (by decide) (Nat.le_trans hlo HB3.out.size);go_wp2_with fail;refine HC.out.mono ?_;rintro e w4 ⟨A3,c3,rfl,hp,hb⟩;have HB4:=tB HB3 hb;have HP0_4:=zq (HP0_3.out.under hb);have HP1_4:=zq (HP1_3.out.under hb);have HP2_4:=zq (HP2_3.out.under hb);have HP3_4:=zq hp;clear hp hb HC HB3 HP0_3 HP1_3 HP2_3;have HC:Hid (Calls Tryz.prog 245 #[.slice (some ⟨w4.heap.size,0,none⟩) 3 3] (w4.alloc (.cells #[.int .i64 20,.int .i64 21,.int .i64 22] 3)) fun e w'=> ∃A' c',e= .returned (.slice A' 3 c')/\Parts lo w'.heap.size w' A' 3 c' (plainPts [20,21,22])/\Below w4.heap.size w4 w'):=plain_lit lo [20,21,22] w4 (by decide) (Nat.le_trans hlo HB4.out.size);go_wp2_with fail;refine HC.out.mono ?_;rintro e w5 ⟨A4,c4,rfl,hp,hb⟩;have HB5:=tB HB4 hb;have HP0_5:=zq (HP0_4.out.under hb);have HP1_5:=zq (HP1_4.out.under hb);have HP2_5:=zq (HP2_4.out.under hb);have HP3_5:=zq (HP3_4.out.under hb);have HP4_5:=zq hp;clear hp hb HC HB4 HP0_4 HP1_4 HP2_4 HP3_4;have HC:Hid (Calls Tryz.prog 248 #[.int .i64 23,.slice (some ⟨w5.heap.size,0,none⟩) 1 1] (w5.alloc (.cells #[.int .i64 24] 3)) fun e w'=> ∃A' c',e= .returned (.slice A' 1 c')/\Parts lo w'.heap.size w' A' 1 c' [.mk 23 1 (plainPts [24])]/\Below w5.heap.size w5 w'):=ifOne_lit lo 23 [24] w5 (by decide) (Nat.le_trans hlo HB5.out.size);go_wp2_with fail;refine HC.out.mono ?_;rintro e w6 ⟨A5,c5,rfl,hp,hb⟩;have HB6:=tB HB5 hb;have HP0_6:=zq (HP0_5.out.under hb);have HP1_6:=zq (HP1_5.out.under hb);have HP2_6:=zq (HP2_5.out.under hb);have HP3_6:=zq (HP3_5.out.under hb);have HP4_6:=zq (HP4_5.out.under hb);have HP5_6:=zq hp;clear hp hb HC HB5 HP0_5 HP1_5 HP2_5 HP3_5 HP4_5;have HC:Hid (Calls Tryz.prog 244 #[.slice (some ⟨w6.heap.size,0,none⟩) 6 6] (w6.alloc (.cells #[.slice A0 2 c0,.slice A1 n c1,.slice A2 5 c2,.slice A3 1 c3,.slice A4 3 c4,.slice A5 1 c5] 252)) fun e w'=> ∃A' n' c',e= .returned (.slice A' n' c')/\Parts lo w'.heap.size w' A' n' c' (ptsOf [(A0,2,c0,(plainPts [7,8])),(A1,n,c1,(plainPts gs)),(A2,5,c2,(plainPts [13,14,15,16,17])),(A3,1,c3,[.mk 18 2 (plainPts [19])]),(A4,3,c4,(plainPts [20,21,22])),(A5,1,c5,[.mk 23 1 (plainPts [24])])])/\Below w6.heap.size w6 w'):=cat_lit lo [(A0,2,c0,(plainPts [7,8])),(A1,n,c1,(plainPts gs)),(A2,5,c2,(plainPts [13,14,15,16,17])),(A3,1,c3,[.mk 18 2 (plainPts [19])]),(A4,3,c4,(plainPts [20,21,22])),(A5,1,c5,[.mk 23 1 (plainPts [24])])] w6 (by simp) (fun x hx=>by
  simp only[List.mem_cons,List.not_mem_nil,or_false]at hx
  rcases hx with rfl|rfl|rfl|rfl|rfl|rfl
  ·exact⟨HP0_6.out,(by show(2:Nat)<=100;omega)⟩
  ·exact⟨HP1_6.out,(by show(n:Nat)<=100;omega)⟩
  ·exact⟨HP2_6.out,(by show(5:Nat)<=100;omega)⟩
  ·exact⟨HP3_6.out,(by show(1:Nat)<=100;omega)⟩
  ·exact⟨HP4_6.out,(by show(3:Nat)<=100;omega)⟩
  ·exact⟨HP5_6.out,(by show(1:Nat)<=100;omega)⟩
  ) (Nat.le_trans hlo HB6.out.size)
 go_wp2_with fail;refine HC.out.mono ?_;rintro e w7 ⟨A6,n6,c6,rfl,hp,hb⟩;have HB7:=tB HB6 hb;have HP6_7:=zq hp;clear hp hb HC HB6 HP0_6 HP1_6 HP2_6 HP3_6 HP4_6 HP5_6;go_wp2;go_ret
 exact⟨A6,n6,c6,rfl,HP6_7.out,HB7.out⟩
theorem report_lit (lo:Nat)(vs:List Nat)(w:World)(hn:vs.length<=10)(hlo:lo<=w.heap.size):
  Calls Tryz.prog 243 #[.slice (some ⟨w.heap.size,0,none⟩) vs.length vs.length] (w.alloc (.cells (nats vs).toArray 3)) fun e w'=> ∃A' n' c',e= .returned (.slice A' n' c')/\Parts lo w'.heap.size w' A' n' c' (reportPts vs)/\Below w.heap.size w w':=by
 refine(report_parts lo _ vs.length _ vs _ (slz_made lo w _ (nats vs) vs.length (by simp[nats]) hlo).sl hn (by simp;omega)).mono ?_;rintro e w' ⟨A',n',c',rfl,hp,hb⟩;exact⟨A',n',c',rfl,hp,((Below.refl _ w).alloc (Nat.le_refl _) _).trans (hb.mono (by simp))⟩
/-! What the parts stand for, in the chapter's words. -/
mutual
def ndPt:Pt->List Nd
 | .mk v k b=>if k=3 then[.v v]else[.v v,.g k (ndPts b)]
def ndPts:List Pt->List Nd
 |[]=>[]
 |x::l=>ndPt x++ndPts l
end
theorem authority_parts (lo:Nat)(w0:World)(hlo:lo<=w0.heap.size):
  Calls Tryz.prog 249 #[] w0 fun e w'=> ∃A' n' c' l,e= .returned (.slice A' n' c')/\Parts lo w'.heap.size w' A' n' c' l/\ndPts l=astOf 15/\Below w0.heap.size w0 w':=by
 have HB0:=zq (Below.refl w0.heap.size w0);go_enter Tryz.func249,Tryz.ntmps249;have HC:Hid (Calls Tryz.prog 248 #[.int .i64 29,.slice (some ⟨w0.heap.size,0,none⟩) 2 2] (w0.alloc (.cells #[.int .i64 30,.int .i64 31] 3)) fun e w'=> ∃A' c',e= .returned (.slice A' 1 c')/\Parts lo w'.heap.size w' A' 1 c' [.mk 29 1 (plainPts [30,31])]/\Below w0.heap.size w0 w'):=ifOne_lit lo 29 [30,31] w0 (by decide) (Nat.le_trans hlo HB0.out.size);go_wp2_with fail;refine HC.out.mono ?_;rintro e w1 ⟨A0,c0,rfl,hp,hb⟩;have HB1:=tB HB0 hb;have HP0_1:=zq hp;clear hp hb HC HB0;have HC:Hid (Calls Tryz.prog 245 #[.slice (some ⟨w1.heap.size,0,none⟩) 5 5] (w1.alloc (.cells #[.int .i64 6,.int .i64 7,.int .i64 8,.int .i64 25,.int .i64 26] 3)) fun e w'=> ∃A' c',e= .returned (.slice A' 5 c')/\Parts lo w'.heap.size w' A' 5 c' (plainPts [6,7,8,25,26])/\Below w1.heap.size w1 w'):=plain_lit lo [6,7,8,25,26] w1 (by decide) (Nat.le_trans hlo HB1.out.size);go_wp2_with fail;refine HC.out.mono ?_;rintro e w2 ⟨A1,c1,rfl,hp,hb⟩;have HB2:=tB HB1 hb;have HP0_2:=zq (HP0_1.out.under hb);have HP1_2:=zq hp;clear hp hb HC HB1 HP0_1;have HC:Hid (Calls Tryz.prog 245 #[.slice (some ⟨w2.heap.size,0,none⟩) 1 1] (w2.alloc (.cells #[.int .i64 28] 3)) fun e w'=> ∃A' c',e= .returned (.slice A' 1 c')/\Parts lo w'.heap.size w' A' 1 c' (plainPts [28])/\Below w2.heap.size w2 w'):=plain_lit lo [28] w2 (by decide) (Nat.le_trans hlo HB2.out.size);go_wp2_with fail;refine HC.out.mono ?_;rintro e w3 ⟨A2,c2,rfl,hp,hb⟩;have HB3:=tB HB2 hb;have HP0_3:=zq (HP0_2.out.under hb);have HP1_3:=zq (HP1_2.out.under hb);have HP2_3:=zq hp;clear hp hb HC HB2 HP0_2 HP1_2;have HC:Hid (Calls Tryz.prog 246 #[.slice (some ⟨w3.heap.size,0,none⟩) 2 2] (w3.alloc (.cells #[.slice A2 1 c2,.slice A0 1 c0] 252)) fun e w'=> ∃A' c',e= .returned (.slice A' 1 c')/\Parts lo w'.heap.size w' A' 1 c' [.mk 27 0 (ptsOf [(A2,1,c2,(plainPts [28])),(A0,1,c0,[.mk 29 1 (plainPts [30,31])])])]/\Below w3.heap.size w3 w'):=iter_lit lo [(A2,1,c2,(plainPts [28])),(A0,1,c0,[.mk 29 1 (plainPts [30,31])])] w3 (by simp) (fun x hx=>by
  simp only[List.mem_cons,List.not_mem_nil,or_false]at hx
  rcases hx with rfl|rfl
  ·exact⟨HP2_3.out,(by show(1:Nat)<=100;omega)⟩
  ·exact⟨HP0_3.out,(by show(1:Nat)<=100;omega)⟩
  ) (Nat.le_trans hlo HB3.out.size)
 go_wp2_with fail;refine HC.out.mono ?_;rintro e w4 ⟨A3,c3,rfl,hp,hb⟩;have HB4:=tB HB3 hb;have HP0_4:=zq (HP0_3.out.under hb);have HP1_4:=zq (HP1_3.out.under hb);have HP3_4:=zq hp;clear hp hb HC HB3 HP0_3 HP1_3 HP2_3;have HC:Hid (Calls Tryz.prog 245 #[.slice (some ⟨w4.heap.size,0,none⟩) 1 1] (w4.alloc (.cells #[.int .i64 32] 3)) fun e w'=> ∃A' c',e= .returned (.slice A' 1 c')/\Parts lo w'.heap.size w' A' 1 c' (plainPts [32])/\Below w4.heap.size w4 w'):=plain_lit lo [32] w4 (by decide) (Nat.le_trans hlo HB4.out.size);go_wp2_with fail;refine HC.out.mono ?_;rintro e w5 ⟨A4,c4,rfl,hp,hb⟩;have HB5:=tB HB4 hb;have HP0_5:=zq (HP0_4.out.under hb);have HP1_5:=zq (HP1_4.out.under hb);have HP3_5:=zq (HP3_4.out.under hb);have HP4_5:=zq hp;clear hp hb HC HB4 HP0_4 HP1_4 HP3_4;have HC:Hid (Calls Tryz.prog 248 #[.int .i64 33,.slice (some ⟨w5.heap.size,0,none⟩) 2 2] (w5.alloc (.cells #[.int .i64 34,.int .i64 35] 3)) fun e w'=> ∃A' c',e= .returned (.slice A' 1 c')/\Parts lo w'.heap.size w' A' 1 c' [.mk 33 1 (plainPts [34,35])]/\Below w5.heap.size w5 w'):=ifOne_lit lo 33 [34,35] w5 (by decide) (Nat.le_trans hlo HB5.out.size);go_wp2_with fail;refine HC.out.mono ?_;rintro e w6 ⟨A5,c5,rfl,hp,hb⟩;have HB6:=tB HB5 hb;have HP0_6:=zq (HP0_5.out.under hb);have HP1_6:=zq (HP1_5.out.under hb);have HP3_6:=zq (HP3_5.out.under hb);have HP4_6:=zq (HP4_5.out.under hb);have HP5_6:=zq hp;clear hp hb HC HB5 HP0_5 HP1_5 HP3_5 HP4_5;have HC:Hid (Calls Tryz.prog 248 #[.int .i64 36,.slice (some ⟨w6.heap.size,0,none⟩) 2 2] (w6.alloc (.cells #[.int .i64 37,.int .i64 38] 3)) fun e w'=> ∃A' c',e= .returned (.slice A' 1 c')/\Parts lo w'.heap.size w' A' 1 c' [.mk 36 1 (plainPts [37,38])]/\Below w6.heap.size w6 w'):=ifOne_lit lo 36 [37,38] w6 (by decide) (Nat.le_trans hlo HB6.out.size);go_wp2_with fail;refine HC.out.mono ?_;rintro e w7 ⟨A6,c6,rfl,hp,hb⟩;have HB7:=tB HB6 hb;have HP0_7:=zq (HP0_6.out.under hb);have HP1_7:=zq (HP1_6.out.under hb);have HP3_7:=zq (HP3_6.out.under hb);have HP4_7:=zq (HP4_6.out.under hb);have HP5_7:=zq (HP5_6.out.under hb);have HP6_7:=zq hp;clear hp hb HC HB6 HP0_6 HP1_6 HP3_6 HP4_6 HP5_6;have HC:Hid (Calls Tryz.prog 248 #[.int .i64 39,.slice (some ⟨w7.heap.size,0,none⟩) 4 4] (w7.alloc (.cells #[.int .i64 40,.int .i64 41,.int .i64 42,.int .i64 43] 3)) fun e w'=> ∃A' c',e= .returned (.slice A' 1 c')/\Parts lo w'.heap.size w' A' 1 c' [.mk 39 1 (plainPts [40,41,42,43])]/\Below w7.heap.size w7 w'):=ifOne_lit lo 39 [40,41,42,43] w7 (by decide) (Nat.le_trans hlo HB7.out.size);go_wp2_with fail;refine HC.out.mono ?_;rintro e w8 ⟨A7,c7,rfl,hp,hb⟩;have HB8:=tB HB7 hb;have HP0_8:=zq (HP0_7.out.under hb);have HP1_8:=zq (HP1_7.out.under hb);have HP3_8:=zq (HP3_7.out.under hb);have HP4_8:=zq (HP4_7.out.under hb);have HP5_8:=zq (HP5_7.out.under hb);have HP6_8:=zq (HP6_7.out.under hb);have HP7_8:=zq hp;clear hp hb HC HB7 HP0_7 HP1_7 HP3_7 HP4_7 HP5_7 HP6_7;have HC:Hid (Calls Tryz.prog 244 #[.slice (some ⟨w8.heap.size,0,none⟩) 7 7] (w8.alloc (.cells #[.slice A1 5 c1,.slice A3 1 c3,.slice A4 1 c4,.slice A0 1 c0,.slice A5 1 c5,.slice A6 1 c6,.slice A7 1 c7] 252)) fun e w'=> ∃A' n' c',e= .returned (.slice A' n' c')/\Parts lo w'.heap.size w' A' n' c' (ptsOf [(A1,5,c1,(plainPts [6,7,8,25,26])),(A3,1,c3,[.mk 27 0 (ptsOf [(A2,1,c2,(plainPts [28])),(A0,1,c0,[.mk 29 1 (plainPts [30,31])])])]),(A4,1,c4,(plainPts [32])),(A0,1,c0,[.mk 29 1 (plainPts [30,31])]),(A5,1,c5,[.mk 33 1 (plainPts [34,35])]),(A6,1,c6,[.mk 36 1 (plainPts [37,38])]),(A7,1,c7,[.mk 39 1 (plainPts [40,41,42,43])])])/\Below w8.heap.size w8 w'):=cat_lit lo [(A1,5,c1,(plainPts [6,7,8,25,26])),(A3,1,c3,[.mk 27 0 (ptsOf [(A2,1,c2,(plainPts [28])),(A0,1,c0,[.mk 29 1 (plainPts [30,31])])])]),(A4,1,c4,(plainPts [32])),(A0,1,c0,[.mk 29 1 (plainPts [30,31])]),(A5,1,c5,[.mk 33 1 (plainPts [34,35])]),(A6,1,c6,[.mk 36 1 (plainPts [37,38])]),(A7,1,c7,[.mk 39 1 (plainPts [40,41,42,43])])] w8 (by simp) (fun x hx=>by
  simp only[List.mem_cons,List.not_mem_nil,or_false]at hx
  rcases hx with rfl|rfl|rfl|rfl|rfl|rfl|rfl
  ·exact⟨HP1_8.out,(by show(5:Nat)<=100;omega)⟩
  ·exact⟨HP3_8.out,(by show(1:Nat)<=100;omega)⟩
  ·exact⟨HP4_8.out,(by show(1:Nat)<=100;omega)⟩
  ·exact⟨HP0_8.out,(by show(1:Nat)<=100;omega)⟩
  ·exact⟨HP5_8.out,(by show(1:Nat)<=100;omega)⟩
  ·exact⟨HP6_8.out,(by show(1:Nat)<=100;omega)⟩
  ·exact⟨HP7_8.out,(by show(1:Nat)<=100;omega)⟩
  ) (Nat.le_trans hlo HB8.out.size)
 go_wp2_with fail;refine HC.out.mono ?_;rintro e w9 ⟨A8,n8,c8,rfl,hp,hb⟩;have HB9:=tB HB8 hb;have HP8_9:=zq hp;clear hp hb HC HB8 HP0_8 HP1_8 HP3_8 HP4_8 HP5_8 HP6_8 HP7_8;go_wp2;go_ret
 exact⟨A8,n8,c8,_,rfl,HP8_9.out,by kernel_rfl,HB9.out⟩
end
section
open Go.RowKit
theorem layout_3 (lo:Nat)(w0:World)(hlo:lo<=w0.heap.size):
  Calls Tryz.prog 213 #[.int .i64 3] w0 fun e w'=> ∃A' n' c' l,e= .returned (.slice A' n' c')/\Parts lo w'.heap.size w' A' n' c' l/\ndPts l=astOf 3/\Below w0.heap.size w0 w':=by
 have HB0:=zq (Below.refl w0.heap.size w0);go_enter Tryz.func213,Tryz.ntmps213;have HC:Hid (Calls Tryz.prog 245 #[.slice (some ⟨w0.heap.size,0,none⟩) 4 4] (w0.alloc (.cells #[.int .i64 6,.int .i64 7,.int .i64 8,.int .i64 84] 3)) fun e w'=> ∃A' c',e= .returned (.slice A' 4 c')/\Parts lo w'.heap.size w' A' 4 c' (plainPts [6,7,8,84])/\Below w0.heap.size w0 w'):=plain_lit lo [6,7,8,84] w0 (by decide) (Nat.le_trans hlo HB0.out.size);go_wp2_with fail;refine HC.out.mono ?_;rintro e w1 ⟨A0,c0,rfl,hp,hb⟩;have HB1:=tB HB0 hb;have HP0_1:=zq hp;clear hp hb HC HB0;have HC:Hid (Calls Tryz.prog 245 #[.slice (some ⟨w1.heap.size,0,none⟩) 1 1] (w1.alloc (.cells #[.int .i64 10] 3)) fun e w'=> ∃A' c',e= .returned (.slice A' 1 c')/\Parts lo w'.heap.size w' A' 1 c' (plainPts [10])/\Below w1.heap.size w1 w'):=plain_lit lo [10] w1 (by decide) (Nat.le_trans hlo HB1.out.size);go_wp2_with fail;refine HC.out.mono ?_;rintro e w2 ⟨A1,c1,rfl,hp,hb⟩;have HB2:=tB HB1 hb;have HP0_2:=zq (HP0_1.out.under hb);have HP1_2:=zq hp;clear hp hb HC HB1 HP0_1;have HC:Hid (Calls Tryz.prog 246 #[.slice (some ⟨w2.heap.size,0,none⟩) 1 1] (w2.alloc (.cells #[.slice A1 1 c1] 252)) fun e w'=> ∃A' c',e= .returned (.slice A' 1 c')/\Parts lo w'.heap.size w' A' 1 c' [.mk 27 0 (ptsOf [(A1,1,c1,(plainPts [10]))])]/\Below w2.heap.size w2 w'):=iter_lit lo [(A1,1,c1,(plainPts [10]))] w2 (by simp) (fun x hx=>by
  simp only[List.mem_cons,List.not_mem_nil,or_false]at hx;subst hx
  ·exact⟨HP1_2.out,(by show(1:Nat)<=100;omega)⟩
  ) (Nat.le_trans hlo HB2.out.size)
 go_wp2_with fail;refine HC.out.mono ?_;rintro e w3 ⟨A2,c2,rfl,hp,hb⟩;have HB3:=tB HB2 hb;have HP0_3:=zq (HP0_2.out.under hb);have HP2_3:=zq hp;clear hp hb HC HB2 HP0_2 HP1_2;have HC:Hid (Calls Tryz.prog 245 #[.slice (some ⟨w3.heap.size,0,none⟩) 3 3] (w3.alloc (.cells #[.int .i64 85,.int .i64 87,.int .i64 86] 3)) fun e w'=> ∃A' c',e= .returned (.slice A' 3 c')/\Parts lo w'.heap.size w' A' 3 c' (plainPts [85,87,86])/\Below w3.heap.size w3 w'):=plain_lit lo [85,87,86] w3 (by decide) (Nat.le_trans hlo HB3.out.size);go_wp2_with fail;refine HC.out.mono ?_;rintro e w4 ⟨A3,c3,rfl,hp,hb⟩;have HB4:=tB HB3 hb;have HP0_4:=zq (HP0_3.out.under hb);have HP2_4:=zq (HP2_3.out.under hb);have HP3_4:=zq hp;clear hp hb HC HB3 HP0_3 HP2_3;have HC:Hid (Calls Tryz.prog 244 #[.slice (some ⟨w4.heap.size,0,none⟩) 3 3] (w4.alloc (.cells #[.slice A0 4 c0,.slice A2 1 c2,.slice A3 3 c3] 252)) fun e w'=> ∃A' n' c',e= .returned (.slice A' n' c')/\Parts lo w'.heap.size w' A' n' c' (ptsOf [(A0,4,c0,(plainPts [6,7,8,84])),(A2,1,c2,[.mk 27 0 (ptsOf [(A1,1,c1,(plainPts [10]))])]),(A3,3,c3,(plainPts [85,87,86]))])/\Below w4.heap.size w4 w'):=cat_lit lo [(A0,4,c0,(plainPts [6,7,8,84])),(A2,1,c2,[.mk 27 0 (ptsOf [(A1,1,c1,(plainPts [10]))])]),(A3,3,c3,(plainPts [85,87,86]))] w4 (by simp) (fun x hx=>by
  simp only[List.mem_cons,List.not_mem_nil,or_false]at hx
  rcases hx with rfl|rfl|rfl
  ·exact⟨HP0_4.out,(by show(4:Nat)<=100;omega)⟩
  ·exact⟨HP2_4.out,(by show(1:Nat)<=100;omega)⟩
  ·exact⟨HP3_4.out,(by show(3:Nat)<=100;omega)⟩
  ) (Nat.le_trans hlo HB4.out.size)
 go_wp2_with fail;refine HC.out.mono ?_;rintro e w5 ⟨A4,n4,c4,rfl,hp,hb⟩;have HB5:=tB HB4 hb;have HP4_5:=zq hp;clear hp hb HC HB4 HP0_4 HP2_4 HP3_4;go_wp2;go_ret
 exact⟨A4,n4,c4,_,rfl,HP4_5.out,by kernel_rfl,HB5.out⟩
theorem layout_5 (lo:Nat)(w0:World)(hlo:lo<=w0.heap.size):
  Calls Tryz.prog 213 #[.int .i64 5] w0 fun e w'=> ∃A' n' c' l,e= .returned (.slice A' n' c')/\Parts lo w'.heap.size w' A' n' c' l/\ndPts l=astOf 5/\Below w0.heap.size w0 w':=by
 have HB0:=zq (Below.refl w0.heap.size w0);go_enter Tryz.func213,Tryz.ntmps213;have HC:Hid (Calls Tryz.prog 245 #[.slice (some ⟨w0.heap.size,0,none⟩) 1 1] (w0.alloc (.cells #[.int .i64 44] 3)) fun e w'=> ∃A' c',e= .returned (.slice A' 1 c')/\Parts lo w'.heap.size w' A' 1 c' (plainPts [44])/\Below w0.heap.size w0 w'):=plain_lit lo [44] w0 (by decide) (Nat.le_trans hlo HB0.out.size);go_wp2_with fail;refine HC.out.mono ?_;rintro e w1 ⟨A0,c0,rfl,hp,hb⟩;have HB1:=tB HB0 hb;have HP0_1:=zq hp;clear hp hb HC HB0;have HC:Hid (Calls Tryz.prog 248 #[.int .i64 12,.slice (some ⟨w1.heap.size,0,none⟩) 1 1] (w1.alloc (.cells #[.int .i64 10] 3)) fun e w'=> ∃A' c',e= .returned (.slice A' 1 c')/\Parts lo w'.heap.size w' A' 1 c' [.mk 12 1 (plainPts [10])]/\Below w1.heap.size w1 w'):=ifOne_lit lo 12 [10] w1 (by decide) (Nat.le_trans hlo HB1.out.size);go_wp2_with fail;refine HC.out.mono ?_;rintro e w2 ⟨A1,c1,rfl,hp,hb⟩;have HB2:=tB HB1 hb;have HP0_2:=zq (HP0_1.out.under hb);have HP1_2:=zq hp;clear hp hb HC HB1 HP0_1;have HC:Hid (Calls Tryz.prog 245 #[.slice (some ⟨w2.heap.size,0,none⟩) 4 4] (w2.alloc (.cells #[.int .i64 11,.int .i64 45,.int .i64 46,.int .i64 47] 3)) fun e w'=> ∃A' c',e= .returned (.slice A' 4 c')/\Parts lo w'.heap.size w' A' 4 c' (plainPts [11,45,46,47])/\Below w2.heap.size w2 w'):=plain_lit lo [11,45,46,47] w2 (by decide) (Nat.le_trans hlo HB2.out.size);go_wp2_with fail;refine HC.out.mono ?_;rintro e w3 ⟨A2,c2,rfl,hp,hb⟩;have HB3:=tB HB2 hb;have HP0_3:=zq (HP0_2.out.under hb);have HP1_3:=zq (HP1_2.out.under hb);have HP2_3:=zq hp;clear hp hb HC HB2 HP0_2 HP1_2;have HC:Hid (Calls Tryz.prog 247 #[.slice (some ⟨w3.heap.size,0,none⟩) 3 3] (w3.alloc (.cells #[.slice A0 1 c0,.slice A1 1 c1,.slice A2 4 c2] 252)) fun e w'=> ∃A' n' c',e= .returned (.slice A' n' c')/\Parts lo w'.heap.size w' A' n' c' (omPts (ptsOf [(A0,1,c0,(plainPts [44])),(A1,1,c1,[.mk 12 1 (plainPts [10])]),(A2,4,c2,(plainPts [11,45,46,47]))]))/\Below w3.heap.size w3 w'):=oneOrMore_lit lo [(A0,1,c0,(plainPts [44])),(A1,1,c1,[.mk 12 1 (plainPts [10])]),(A2,4,c2,(plainPts [11,45,46,47]))] w3 (by simp) (fun x hx=>by
  simp only[List.mem_cons,List.not_mem_nil,or_false]at hx
  rcases hx with rfl|rfl|rfl
  ·exact⟨HP0_3.out,(by show(1:Nat)<=100;omega)⟩
  ·exact⟨HP1_3.out,(by show(1:Nat)<=100;omega)⟩
  ·exact⟨HP2_3.out,(by show(4:Nat)<=100;omega)⟩
  ) (Nat.le_trans hlo HB3.out.size) (by simp[ptsOf,plainPts])
 go_wp2_with fail;refine HC.out.mono ?_;rintro e w4 ⟨A3,n3,c3,rfl,hp,hb⟩;have HB4:=tB HB3 hb;have HP3_4:=zq hp;clear hp hb HC HB3 HP0_3 HP1_3 HP2_3;go_wp2;go_ret
 exact⟨A3,n3,c3,_,rfl,HP3_4.out,by kernel_rfl,HB4.out⟩
theorem layout_11 (lo:Nat)(w0:World)(hlo:lo<=w0.heap.size):
  Calls Tryz.prog 213 #[.int .i64 11] w0 fun e w'=> ∃A' n' c' l,e= .returned (.slice A' n' c')/\Parts lo w'.heap.size w' A' n' c' l/\ndPts l=astOf 11/\Below w0.heap.size w0 w':=by
 have HB0:=zq (Below.refl w0.heap.size w0);go_enter Tryz.func213,Tryz.ntmps213;have HC:Hid (Calls Tryz.prog 245 #[.slice (some ⟨w0.heap.size,0,none⟩) 8 8] (w0.alloc (.cells #[.int .i64 7,.int .i64 75,.int .i64 76,.int .i64 77,.int .i64 78,.int .i64 79,.int .i64 80,.int .i64 81] 3)) fun e w'=> ∃A' c',e= .returned (.slice A' 8 c')/\Parts lo w'.heap.size w' A' 8 c' (plainPts [7,75,76,77,78,79,80,81])/\Below w0.heap.size w0 w'):=plain_lit lo [7,75,76,77,78,79,80,81] w0 (by decide) (Nat.le_trans hlo HB0.out.size);go_wp2_with fail;refine HC.out.mono ?_;rintro e w1 ⟨A0,c0,rfl,hp,hb⟩;have HB1:=tB HB0 hb;have HP0_1:=zq hp;clear hp hb HC HB0;have HC:Hid (Calls Tryz.prog 245 #[.slice (some ⟨w1.heap.size,0,none⟩) 1 1] (w1.alloc (.cells #[.int .i64 82] 3)) fun e w'=> ∃A' c',e= .returned (.slice A' 1 c')/\Parts lo w'.heap.size w' A' 1 c' (plainPts [82])/\Below w1.heap.size w1 w'):=plain_lit lo [82] w1 (by decide) (Nat.le_trans hlo HB1.out.size);go_wp2_with fail;refine HC.out.mono ?_;rintro e w2 ⟨A1,c1,rfl,hp,hb⟩;have HB2:=tB HB1 hb;have HP0_2:=zq (HP0_1.out.under hb);have HP1_2:=zq hp;clear hp hb HC HB1 HP0_1;have HC:Hid (Calls Tryz.prog 246 #[.slice (some ⟨w2.heap.size,0,none⟩) 1 1] (w2.alloc (.cells #[.slice A1 1 c1] 252)) fun e w'=> ∃A' c',e= .returned (.slice A' 1 c')/\Parts lo w'.heap.size w' A' 1 c' [.mk 27 0 (ptsOf [(A1,1,c1,(plainPts [82]))])]/\Below w2.heap.size w2 w'):=iter_lit lo [(A1,1,c1,(plainPts [82]))] w2 (by simp) (fun x hx=>by
  simp only[List.mem_cons,List.not_mem_nil,or_false]at hx;subst hx
  ·exact⟨HP1_2.out,(by show(1:Nat)<=100;omega)⟩
  ) (Nat.le_trans hlo HB2.out.size)
 go_wp2_with fail;refine HC.out.mono ?_;rintro e w3 ⟨A2,c2,rfl,hp,hb⟩;have HB3:=tB HB2 hb;have HP0_3:=zq (HP0_2.out.under hb);have HP2_3:=zq hp;clear hp hb HC HB2 HP0_2 HP1_2;have HC:Hid (Calls Tryz.prog 245 #[.slice (some ⟨w3.heap.size,0,none⟩) 1 1] (w3.alloc (.cells #[.int .i64 83] 3)) fun e w'=> ∃A' c',e= .returned (.slice A' 1 c')/\Parts lo w'.heap.size w' A' 1 c' (plainPts [83])/\Below w3.heap.size w3 w'):=plain_lit lo [83] w3 (by decide) (Nat.le_trans hlo HB3.out.size);go_wp2_with fail;refine HC.out.mono ?_;rintro e w4 ⟨A3,c3,rfl,hp,hb⟩;have HB4:=tB HB3 hb;have HP0_4:=zq (HP0_3.out.under hb);have HP2_4:=zq (HP2_3.out.under hb);have HP3_4:=zq hp;clear hp hb HC HB3 HP0_3 HP2_3;have HC:Hid (Calls Tryz.prog 246 #[.slice (some ⟨w4.heap.size,0,none⟩) 1 1] (w4.alloc (.cells #[.slice A3 1 c3] 252)) fun e w'=> ∃A' c',e= .returned (.slice A' 1 c')/\Parts lo w'.heap.size w' A' 1 c' [.mk 27 0 (ptsOf [(A3,1,c3,(plainPts [83]))])]/\Below w4.heap.size w4 w'):=iter_lit lo [(A3,1,c3,(plainPts [83]))] w4 (by simp) (fun x hx=>by
  simp only[List.mem_cons,List.not_mem_nil,or_false]at hx;subst hx
  ·exact⟨HP3_4.out,(by show(1:Nat)<=100;omega)⟩
  ) (Nat.le_trans hlo HB4.out.size)
 go_wp2_with fail;refine HC.out.mono ?_;rintro e w5 ⟨A4,c4,rfl,hp,hb⟩;have HB5:=tB HB4 hb;have HP0_5:=zq (HP0_4.out.under hb);have HP2_5:=zq (HP2_4.out.under hb);have HP4_5:=zq hp;clear hp hb HC HB4 HP0_4 HP2_4 HP3_4;have HC:Hid (Calls Tryz.prog 244 #[.slice (some ⟨w5.heap.size,0,none⟩) 3 3] (w5.alloc (.cells #[.slice A0 8 c0,.slice A2 1 c2,.slice A4 1 c4] 252)) fun e w'=> ∃A' n' c',e= .returned (.slice A' n' c')/\Parts lo w'.heap.size w' A' n' c' (ptsOf [(A0,8,c0,(plainPts [7,75,76,77,78,79,80,81])),(A2,1,c2,[.mk 27 0 (ptsOf [(A1,1,c1,(plainPts [82]))])]),(A4,1,c4,[.mk 27 0 (ptsOf [(A3,1,c3,(plainPts [83]))])])])/\Below w5.heap.size w5 w'):=cat_lit lo [(A0,8,c0,(plainPts [7,75,76,77,78,79,80,81])),(A2,1,c2,[.mk 27 0 (ptsOf [(A1,1,c1,(plainPts [82]))])]),(A4,1,c4,[.mk 27 0 (ptsOf [(A3,1,c3,(plainPts [83]))])])] w5 (by simp) (fun x hx=>by
  simp only[List.mem_cons,List.not_mem_nil,or_false]at hx
  rcases hx with rfl|rfl|rfl
  ·exact⟨HP0_5.out,(by show(8:Nat)<=100;omega)⟩
  ·exact⟨HP2_5.out,(by show(1:Nat)<=100;omega)⟩
  ·exact⟨HP4_5.out,(by show(1:Nat)<=100;omega)⟩
  ) (Nat.le_trans hlo HB5.out.size)
 go_wp2_with fail;refine HC.out.mono ?_;rintro e w6 ⟨A5,n5,c5,rfl,hp,hb⟩;have HB6:=tB HB5 hb;have HP5_6:=zq hp;clear hp hb HC HB5 HP0_5 HP2_5 HP4_5;go_wp2;go_ret
 exact⟨A5,n5,c5,_,rfl,HP5_6.out,by kernel_rfl,HB6.out⟩
theorem layout_21 (lo:Nat)(w0:World)(hlo:lo<=w0.heap.size):
  Calls Tryz.prog 213 #[.int .i64 21] w0 fun e w'=> ∃A' n' c' l,e= .returned (.slice A' n' c')/\Parts lo w'.heap.size w' A' n' c' l/\ndPts l=astOf 21/\Below w0.heap.size w0 w':=by
 have HB0:=zq (Below.refl w0.heap.size w0);go_enter Tryz.func213,Tryz.ntmps213;have HC:Hid (Calls Tryz.prog 245 #[.slice (some ⟨w0.heap.size,0,none⟩) 3 3] (w0.alloc (.cells #[.int .i64 48,.int .i64 49,.int .i64 50] 3)) fun e w'=> ∃A' c',e= .returned (.slice A' 3 c')/\Parts lo w'.heap.size w' A' 3 c' (plainPts [48,49,50])/\Below w0.heap.size w0 w'):=plain_lit lo [48,49,50] w0 (by decide) (Nat.le_trans hlo HB0.out.size);go_wp2_with fail;refine HC.out.mono ?_;rintro e w1 ⟨A0,c0,rfl,hp,hb⟩;have HB1:=tB HB0 hb;have HP0_1:=zq hp;clear hp hb HC HB0;have HC:Hid (Calls Tryz.prog 247 #[.slice (some ⟨w1.heap.size,0,none⟩) 1 1] (w1.alloc (.cells #[.slice A0 3 c0] 252)) fun e w'=> ∃A' n' c',e= .returned (.slice A' n' c')/\Parts lo w'.heap.size w' A' n' c' (omPts (ptsOf [(A0,3,c0,(plainPts [48,49,50]))]))/\Below w1.heap.size w1 w'):=oneOrMore_lit lo [(A0,3,c0,(plainPts [48,49,50]))] w1 (by simp) (fun x hx=>by
  simp only[List.mem_cons,List.not_mem_nil,or_false]at hx;subst hx
  ·exact⟨HP0_1.out,(by show(3:Nat)<=100;omega)⟩
  ) (Nat.le_trans hlo HB1.out.size) (by simp[ptsOf,plainPts])
 go_wp2_with fail;refine HC.out.mono ?_;rintro e w2 ⟨A1,n1,c1,rfl,hp,hb⟩;have HB2:=tB HB1 hb;have HP1_2:=zq hp;clear hp hb HC HB1 HP0_1;go_wp2;go_ret
 exact⟨A1,n1,c1,_,rfl,HP1_2.out,by kernel_rfl,HB2.out⟩
theorem layout_27 (lo:Nat)(w0:World)(hlo:lo<=w0.heap.size):
  Calls Tryz.prog 213 #[.int .i64 27] w0 fun e w'=> ∃A' n' c' l,e= .returned (.slice A' n' c')/\Parts lo w'.heap.size w' A' n' c' l/\ndPts l=astOf 27/\Below w0.heap.size w0 w':=by
 have HB0:=zq (Below.refl w0.heap.size w0);go_enter Tryz.func213,Tryz.ntmps213;have HC:Hid (Calls Tryz.prog 245 #[.slice (some ⟨w0.heap.size,0,none⟩) 3 3] (w0.alloc (.cells #[.int .i64 51,.int .i64 52,.int .i64 53] 3)) fun e w'=> ∃A' c',e= .returned (.slice A' 3 c')/\Parts lo w'.heap.size w' A' 3 c' (plainPts [51,52,53])/\Below w0.heap.size w0 w'):=plain_lit lo [51,52,53] w0 (by decide) (Nat.le_trans hlo HB0.out.size);go_wp2_with fail;refine HC.out.mono ?_;rintro e w1 ⟨A0,c0,rfl,hp,hb⟩;have HB1:=tB HB0 hb;have HP0_1:=zq hp;clear hp hb HC HB0;have HC:Hid (Calls Tryz.prog 245 #[.slice (some ⟨w1.heap.size,0,none⟩) 2 2] (w1.alloc (.cells #[.int .i64 54,.int .i64 55] 3)) fun e w'=> ∃A' c',e= .returned (.slice A' 2 c')/\Parts lo w'.heap.size w' A' 2 c' (plainPts [54,55])/\Below w1.heap.size w1 w'):=plain_lit lo [54,55] w1 (by decide) (Nat.le_trans hlo HB1.out.size);go_wp2_with fail;refine HC.out.mono ?_;rintro e w2 ⟨A1,c1,rfl,hp,hb⟩;have HB2:=tB HB1 hb;have HP0_2:=zq (HP0_1.out.under hb);have HP1_2:=zq hp;clear hp hb HC HB1 HP0_1;have HC:Hid (Calls Tryz.prog 246 #[.slice (some ⟨w2.heap.size,0,none⟩) 1 1] (w2.alloc (.cells #[.slice A1 2 c1] 252)) fun e w'=> ∃A' c',e= .returned (.slice A' 1 c')/\Parts lo w'.heap.size w' A' 1 c' [.mk 27 0 (ptsOf [(A1,2,c1,(plainPts [54,55]))])]/\Below w2.heap.size w2 w'):=iter_lit lo [(A1,2,c1,(plainPts [54,55]))] w2 (by simp) (fun x hx=>by
  simp only[List.mem_cons,List.not_mem_nil,or_false]at hx;subst hx
  ·exact⟨HP1_2.out,(by show(2:Nat)<=100;omega)⟩
  ) (Nat.le_trans hlo HB2.out.size)
 go_wp2_with fail;refine HC.out.mono ?_;rintro e w3 ⟨A2,c2,rfl,hp,hb⟩;have HB3:=tB HB2 hb;have HP0_3:=zq (HP0_2.out.under hb);have HP2_3:=zq hp;clear hp hb HC HB2 HP0_2 HP1_2;have HC:Hid (Calls Tryz.prog 247 #[.slice (some ⟨w3.heap.size,0,none⟩) 2 2] (w3.alloc (.cells #[.slice A0 3 c0,.slice A2 1 c2] 252)) fun e w'=> ∃A' n' c',e= .returned (.slice A' n' c')/\Parts lo w'.heap.size w' A' n' c' (omPts (ptsOf [(A0,3,c0,(plainPts [51,52,53])),(A2,1,c2,[.mk 27 0 (ptsOf [(A1,2,c1,(plainPts [54,55]))])])]))/\Below w3.heap.size w3 w'):=oneOrMore_lit lo [(A0,3,c0,(plainPts [51,52,53])),(A2,1,c2,[.mk 27 0 (ptsOf [(A1,2,c1,(plainPts [54,55]))])])] w3 (by simp) (fun x hx=>by
  simp only[List.mem_cons,List.not_mem_nil,or_false]at hx
  rcases hx with rfl|rfl
  ·exact⟨HP0_3.out,(by show(3:Nat)<=100;omega)⟩
  ·exact⟨HP2_3.out,(by show(1:Nat)<=100;omega)⟩
  ) (Nat.le_trans hlo HB3.out.size) (by simp[ptsOf,plainPts])
 go_wp2_with fail;refine HC.out.mono ?_;rintro e w4 ⟨A3,n3,c3,rfl,hp,hb⟩;have HB4:=tB HB3 hb;have HP3_4:=zq hp;clear hp hb HC HB3 HP0_3 HP2_3;go_wp2;go_ret
 exact⟨A3,n3,c3,_,rfl,HP3_4.out,by kernel_rfl,HB4.out⟩
theorem layout_42 (lo:Nat)(w0:World)(hlo:lo<=w0.heap.size):
  Calls Tryz.prog 213 #[.int .i64 42] w0 fun e w'=> ∃A' n' c' l,e= .returned (.slice A' n' c')/\Parts lo w'.heap.size w' A' n' c' l/\ndPts l=astOf 42/\Below w0.heap.size w0 w':=by
 have HB0:=zq (Below.refl w0.heap.size w0);go_enter Tryz.func213,Tryz.ntmps213;have HC:Hid (Calls Tryz.prog 245 #[.slice (some ⟨w0.heap.size,0,none⟩) 8 8] (w0.alloc (.cells #[.int .i64 6,.int .i64 7,.int .i64 62,.int .i64 10,.int .i64 63,.int .i64 64,.int .i64 64,.int .i64 65] 3)) fun e w'=> ∃A' c',e= .returned (.slice A' 8 c')/\Parts lo w'.heap.size w' A' 8 c' (plainPts [6,7,62,10,63,64,64,65])/\Below w0.heap.size w0 w'):=plain_lit lo [6,7,62,10,63,64,64,65] w0 (by decide) (Nat.le_trans hlo HB0.out.size);go_wp2_with fail;refine HC.out.mono ?_;rintro e w1 ⟨A0,c0,rfl,hp,hb⟩;have HB1:=tB HB0 hb;have HP0_1:=zq hp;clear hp hb HC HB0;go_wp2;go_ret
 exact⟨A0,8,c0,_,rfl,HP0_1.out,by kernel_rfl,HB1.out⟩
theorem layout_57 (lo:Nat)(w0:World)(hlo:lo<=w0.heap.size):
  Calls Tryz.prog 213 #[.int .i64 57] w0 fun e w'=> ∃A' n' c' l,e= .returned (.slice A' n' c')/\Parts lo w'.heap.size w' A' n' c' l/\ndPts l=astOf 57/\Below w0.heap.size w0 w':=by
 have HB0:=zq (Below.refl w0.heap.size w0);go_enter Tryz.func213,Tryz.ntmps213;have HC:Hid (Calls Tryz.prog 245 #[.slice (some ⟨w0.heap.size,0,none⟩) 5 5] (w0.alloc (.cells #[.int .i64 6,.int .i64 7,.int .i64 66,.int .i64 67,.int .i64 68] 3)) fun e w'=> ∃A' c',e= .returned (.slice A' 5 c')/\Parts lo w'.heap.size w' A' 5 c' (plainPts [6,7,66,67,68])/\Below w0.heap.size w0 w'):=plain_lit lo [6,7,66,67,68] w0 (by decide) (Nat.le_trans hlo HB0.out.size);go_wp2_with fail;refine HC.out.mono ?_;rintro e w1 ⟨A0,c0,rfl,hp,hb⟩;have HB1:=tB HB0 hb;have HP0_1:=zq hp;clear hp hb HC HB0;go_wp2;go_ret
 exact⟨A0,5,c0,_,rfl,HP0_1.out,by kernel_rfl,HB1.out⟩
theorem layout_58 (lo:Nat)(w0:World)(hlo:lo<=w0.heap.size):
  Calls Tryz.prog 213 #[.int .i64 58] w0 fun e w'=> ∃A' n' c' l,e= .returned (.slice A' n' c')/\Parts lo w'.heap.size w' A' n' c' l/\ndPts l=astOf 58/\Below w0.heap.size w0 w':=by
 have HB0:=zq (Below.refl w0.heap.size w0);go_enter Tryz.func213,Tryz.ntmps213;have HC:Hid (Calls Tryz.prog 245 #[.slice (some ⟨w0.heap.size,0,none⟩) 6 6] (w0.alloc (.cells #[.int .i64 6,.int .i64 7,.int .i64 8,.int .i64 69,.int .i64 70,.int .i64 71] 3)) fun e w'=> ∃A' c',e= .returned (.slice A' 6 c')/\Parts lo w'.heap.size w' A' 6 c' (plainPts [6,7,8,69,70,71])/\Below w0.heap.size w0 w'):=plain_lit lo [6,7,8,69,70,71] w0 (by decide) (Nat.le_trans hlo HB0.out.size);go_wp2_with fail;refine HC.out.mono ?_;rintro e w1 ⟨A0,c0,rfl,hp,hb⟩;have HB1:=tB HB0 hb;have HP0_1:=zq hp;clear hp hb HC HB0;have HC:Hid (Calls Tryz.prog 245 #[.slice (some ⟨w1.heap.size,0,none⟩) 2 2] (w1.alloc (.cells #[.int .i64 72,.int .i64 73] 3)) fun e w'=> ∃A' c',e= .returned (.slice A' 2 c')/\Parts lo w'.heap.size w' A' 2 c' (plainPts [72,73])/\Below w1.heap.size w1 w'):=plain_lit lo [72,73] w1 (by decide) (Nat.le_trans hlo HB1.out.size);go_wp2_with fail;refine HC.out.mono ?_;rintro e w2 ⟨A1,c1,rfl,hp,hb⟩;have HB2:=tB HB1 hb;have HP0_2:=zq (HP0_1.out.under hb);have HP1_2:=zq hp;clear hp hb HC HB1 HP0_1;have HC:Hid (Calls Tryz.prog 246 #[.slice (some ⟨w2.heap.size,0,none⟩) 1 1] (w2.alloc (.cells #[.slice A1 2 c1] 252)) fun e w'=> ∃A' c',e= .returned (.slice A' 1 c')/\Parts lo w'.heap.size w' A' 1 c' [.mk 27 0 (ptsOf [(A1,2,c1,(plainPts [72,73]))])]/\Below w2.heap.size w2 w'):=iter_lit lo [(A1,2,c1,(plainPts [72,73]))] w2 (by simp) (fun x hx=>by
  simp only[List.mem_cons,List.not_mem_nil,or_false]at hx;subst hx
  ·exact⟨HP1_2.out,(by show(2:Nat)<=100;omega)⟩
  ) (Nat.le_trans hlo HB2.out.size)
 go_wp2_with fail;refine HC.out.mono ?_;rintro e w3 ⟨A2,c2,rfl,hp,hb⟩;have HB3:=tB HB2 hb;have HP0_3:=zq (HP0_2.out.under hb);have HP2_3:=zq hp;clear hp hb HC HB2 HP0_2 HP1_2;have HC:Hid (Calls Tryz.prog 244 #[.slice (some ⟨w3.heap.size,0,none⟩) 2 2] (w3.alloc (.cells #[.slice A0 6 c0,.slice A2 1 c2] 252)) fun e w'=> ∃A' n' c',e= .returned (.slice A' n' c')/\Parts lo w'.heap.size w' A' n' c' (ptsOf [(A0,6,c0,(plainPts [6,7,8,69,70,71])),(A2,1,c2,[.mk 27 0 (ptsOf [(A1,2,c1,(plainPts [72,73]))])])])/\Below w3.heap.size w3 w'):=cat_lit lo [(A0,6,c0,(plainPts [6,7,8,69,70,71])),(A2,1,c2,[.mk 27 0 (ptsOf [(A1,2,c1,(plainPts [72,73]))])])] w3 (by simp) (fun x hx=>by
  simp only[List.mem_cons,List.not_mem_nil,or_false]at hx
  rcases hx with rfl|rfl
  ·exact⟨HP0_3.out,(by show(6:Nat)<=100;omega)⟩
  ·exact⟨HP2_3.out,(by show(1:Nat)<=100;omega)⟩
  ) (Nat.le_trans hlo HB3.out.size)
 go_wp2_with fail;refine HC.out.mono ?_;rintro e w4 ⟨A3,n3,c3,rfl,hp,hb⟩;have HB4:=tB HB3 hb;have HP3_4:=zq hp;clear hp hb HC HB3 HP0_3 HP2_3;go_wp2;go_ret
 exact⟨A3,n3,c3,_,rfl,HP3_4.out,by kernel_rfl,HB4.out⟩
theorem layout_80 (lo:Nat)(w0:World)(hlo:lo<=w0.heap.size):
  Calls Tryz.prog 213 #[.int .i64 80] w0 fun e w'=> ∃A' n' c' l,e= .returned (.slice A' n' c')/\Parts lo w'.heap.size w' A' n' c' l/\ndPts l=astOf 80/\Below w0.heap.size w0 w':=by
 have HB0:=zq (Below.refl w0.heap.size w0);go_enter Tryz.func213,Tryz.ntmps213;have HC:Hid (Calls Tryz.prog 245 #[.slice (some ⟨w0.heap.size,0,none⟩) 6 6] (w0.alloc (.cells #[.int .i64 56,.int .i64 57,.int .i64 58,.int .i64 59,.int .i64 60,.int .i64 61] 3)) fun e w'=> ∃A' c',e= .returned (.slice A' 6 c')/\Parts lo w'.heap.size w' A' 6 c' (plainPts [56,57,58,59,60,61])/\Below w0.heap.size w0 w'):=plain_lit lo [56,57,58,59,60,61] w0 (by decide) (Nat.le_trans hlo HB0.out.size);go_wp2_with fail;refine HC.out.mono ?_;rintro e w1 ⟨A0,c0,rfl,hp,hb⟩;have HB1:=tB HB0 hb;have HP0_1:=zq hp;clear hp hb HC HB0;have HC:Hid (Calls Tryz.prog 247 #[.slice (some ⟨w1.heap.size,0,none⟩) 1 1] (w1.alloc (.cells #[.slice A0 6 c0] 252)) fun e w'=> ∃A' n' c',e= .returned (.slice A' n' c')/\Parts lo w'.heap.size w' A' n' c' (omPts (ptsOf [(A0,6,c0,(plainPts [56,57,58,59,60,61]))]))/\Below w1.heap.size w1 w'):=oneOrMore_lit lo [(A0,6,c0,(plainPts [56,57,58,59,60,61]))] w1 (by simp) (fun x hx=>by
  simp only[List.mem_cons,List.not_mem_nil,or_false]at hx;subst hx
  ·exact⟨HP0_1.out,(by show(6:Nat)<=100;omega)⟩
  ) (Nat.le_trans hlo HB1.out.size) (by simp[ptsOf,plainPts])
 go_wp2_with fail;refine HC.out.mono ?_;rintro e w2 ⟨A1,n1,c1,rfl,hp,hb⟩;have HB2:=tB HB1 hb;have HP1_2:=zq hp;clear hp hb HC HB1 HP0_1;go_wp2;go_ret
 exact⟨A1,n1,c1,_,rfl,HP1_2.out,by kernel_rfl,HB2.out⟩
theorem layout_0 (lo:Nat)(w0:World)(hlo:lo<=w0.heap.size):
  Calls Tryz.prog 213 #[.int .i64 0] w0 fun e w'=> ∃A' n' c' l,e= .returned (.slice A' n' c')/\Parts lo w'.heap.size w' A' n' c' l/\ndPts l=astOf 0/\Below w0.heap.size w0 w':=by
 have HC:Hid (Calls Tryz.prog 243 #[.slice (some ⟨w0.heap.size,0,none⟩) 1 1] (w0.alloc (.cells #[.int .i64 4] 3)) fun e w'=> ∃A' n' c',e= .returned (.slice A' n' c')/\Parts lo w'.heap.size w' A' n' c' (reportPts [4])/\Below w0.heap.size w0 w'):=report_lit lo [4] w0 (by decide) hlo;go_enter Tryz.func213,Tryz.ntmps213;go_wp2_with fail;refine HC.out.mono ?_;rintro e w1 ⟨A1,n1,c1,rfl,hp,hb⟩;have HP:=zq hp;have HB:=zq hb;clear hp hb HC;go_wp2;go_ret
 exact⟨A1,n1,c1,_,rfl,HP.out,by kernel_rfl,HB.out⟩
theorem layout_1 (lo:Nat)(w0:World)(hlo:lo<=w0.heap.size):
  Calls Tryz.prog 213 #[.int .i64 1] w0 fun e w'=> ∃A' n' c' l,e= .returned (.slice A' n' c')/\Parts lo w'.heap.size w' A' n' c' l/\ndPts l=astOf 1/\Below w0.heap.size w0 w':=by
 have HC:Hid (Calls Tryz.prog 243 #[.slice (some ⟨w0.heap.size,0,none⟩) 2 2] (w0.alloc (.cells #[.int .i64 4,.int .i64 74] 3)) fun e w'=> ∃A' n' c',e= .returned (.slice A' n' c')/\Parts lo w'.heap.size w' A' n' c' (reportPts [4,74])/\Below w0.heap.size w0 w'):=report_lit lo [4,74] w0 (by decide) hlo;go_enter Tryz.func213,Tryz.ntmps213;go_wp2_with fail;refine HC.out.mono ?_;rintro e w1 ⟨A1,n1,c1,rfl,hp,hb⟩;have HP:=zq hp;have HB:=zq hb;clear hp hb HC;go_wp2;go_ret
 exact⟨A1,n1,c1,_,rfl,HP.out,by kernel_rfl,HB.out⟩
theorem layout_15 (lo:Nat)(w0:World)(hlo:lo<=w0.heap.size):
  Calls Tryz.prog 213 #[.int .i64 15] w0 fun e w'=> ∃A' n' c' l,e= .returned (.slice A' n' c')/\Parts lo w'.heap.size w' A' n' c' l/\ndPts l=astOf 15/\Below w0.heap.size w0 w':=by
 have HC:Hid (Calls Tryz.prog 249 #[] w0 fun e w'=> ∃A' n' c' l,e= .returned (.slice A' n' c')/\Parts lo w'.heap.size w' A' n' c' l/\ndPts l=astOf 15/\Below w0.heap.size w0 w'):=authority_parts lo w0 hlo;go_enter Tryz.func213,Tryz.ntmps213;go_wp2_with fail;refine HC.out.mono ?_;rintro e w1 ⟨A1,n1,c1,l1,rfl,hp,hl,hb⟩;have HP:=zq hp;have HB:=zq hb;have HL:=zq hl;clear hl;clear hp hb HC;go_wp2;go_ret
 exact⟨A1,n1,c1,_,rfl,HP.out,HL.out,HB.out⟩
theorem layout_none (id:Int)(h: ¬(id=0\/id=1\/id=3\/id=5\/id=11\/id=15\/id=21\/id=27\/id=42\/id=57\/id=58\/id=80))(w:World):
  Calls Tryz.prog 213 #[.int .i64 id] w fun e w'=>e= .returned (.slice none 0 0)/\w=w':=by
 obtain⟨h0,h1,h3,h5,h11,h15,h21,h27,h42,h57,h58,h80⟩:id≠0/\id≠1/\id≠3/\id≠5/\id≠11/\id≠15/\id≠21/\id≠27/\id≠42/\id≠57/\id≠58/\id≠80:=by omega
 clear h;go_enter Tryz.func213,Tryz.ntmps213;go_wp2;go_ret
 exact⟨rfl,rfl⟩
theorem known_ids {id:Int}:knownB id=true↔(id=0\/id=1\/id=3\/id=5\/id=11\/id=15\/id=21\/id=27\/id=42\/id=57\/id=58\/id=80):=by
 unfold knownB;simp only[Bool.or_eq_true,decide_eq_true_eq];omega
theorem layout_yes (lo:Nat)(id:Int)(hk:knownB id=true)(w:World)(hlo:lo<=w.heap.size):
  Calls Tryz.prog 213 #[.int .i64 id] w fun e w'=> ∃A' n' c' l,e= .returned (.slice A' n' c')/\Parts lo w'.heap.size w' A' n' c' l/\ndPts l=astOf id/\Below w.heap.size w w':=by
 rcases known_ids.1 hk with rfl|rfl|rfl|rfl|rfl|rfl|rfl|rfl|rfl|rfl|rfl|rfl
 ·exact layout_0 lo w hlo
 ·exact layout_1 lo w hlo
 ·exact layout_3 lo w hlo
 ·exact layout_5 lo w hlo
 ·exact layout_11 lo w hlo
 ·exact layout_15 lo w hlo
 ·exact layout_21 lo w hlo
 ·exact layout_27 lo w hlo
 ·exact layout_42 lo w hlo
 ·exact layout_57 lo w hlo
 ·exact layout_58 lo w hlo
 ·exact layout_80 lo w hlo
theorem layout_no (id:Int)(hk:knownB id=false)(w:World):
  Calls Tryz.prog 213 #[.int .i64 id] w fun e w'=>e= .returned (.slice none 0 0)/\w=w':=
 layout_none id (fun h=>by rw[known_ids.2 h]at hk;cases hk) w
end
section
open Go.RowKit
theorem pairs_set: ∀(l:List (Int×Int)) (j:Nat) (n:Int),(pairs l).set (j*2) (.int .i64 n)=pairs (l.set j (n,(l.getD j (0,0)).2))
 |[],j,n=>by simp[pairs]
 |x::l,0,n=>rfl
 |x::l,j+1,n=>by
  have e: ∀y,pairs (y::l)= .int .i64 y.1:: .int .i64 y.2::pairs l:=fun _=>rfl;have e': ∀k:List (Int×Int),pairs (x::k)= .int .i64 x.1:: .int .i64 x.2::pairs k:=fun _=>rfl;rw[e,show(j+1)*2=j*2+1+1 by omega,List.set_cons_succ,List.set_cons_succ,pairs_set l j n,List.set_cons_succ,e']
  rfl
theorem inv_start {id:Int}{V:List Int}(h:V.length<=500000):Inv (startS id V) 1:=⟨by simp[startS],by show V.length<=_;omega,by simp[startS],by simp[startS];omega⟩
end
section
open Go.RowKit
theorem index_any (A:Option Addr)(n c:Nat)(l:List Nat)(x:Int)(w:World)(hs:Sl w 1 A n c (nats l))(hn:n<=100):
  Calls Tryz.prog 269 #[.slice A n c,.int .i64 x] w fun e w'=> ∃r:Int,e= .returned (.int .i64 r)/\(0<=r↔ ∃y∈l,(y:Int)=x)/\w=w':=by
 have hl:l.length=n:=by have:=hs.1;simpa[nats]using this
 have HS:=zq hs;have HL:=zq hl;clear hs hl;go_enter Tryz.func269,Tryz.ntmps269;go_wp2;go_loop [8] (fun i=> ∃j:Nat,j<=n/\i= .int .i64 j/\ ∀q,q<j->(l.getD q 0:Int)≠x) (fun i=>n-(intOf i).toNat)
 case atStart=>exact⟨0,by omega,rfl,fun q h=>by omega⟩
 obtain⟨j,hj,rfl,hq⟩:=hrel;have HQ:=zq hq;clear hq;by_cases hlt:j<n
 ·have hjl:j<l.length:=by have:=HL.out;omega
  obtain⟨b,o,rfl,hc⟩:=HS.out.at_ (j:=j) (u:= .int .i64 (l.getD j 0:Int)) (by simp[nats,List.getD_eq_getElem?_getD,List.getElem?_eq_getElem hjl]);have hm:l.getD j 0∈l:=by rw[List.getD_eq_getElem?_getD,List.getElem?_eq_getElem hjl];exact List.getElem_mem hjl
  have hall: ∀q,q<j+1->(l.getD j 0:Int)≠x->(l.getD q 0:Int)≠x:=fun q h1 h2=>by
   by_cases e:q=j
   ·rw[e];exact h2
   ·exact HQ.out q (by omega)
  have HALL:=zq hall;clear hall;generalize l.getD j 0=y at*;have HM:=zq hm;clear hm hjl;have x0:(0:Int)<=j:=by omega
  have x1:(j:Int)<n:=by omega
  by_cases he:(x:Int)=y
  ·have h1:((x:Int)==(y:Int))=true:=by simp[he]
   have HE:=zq he;clear he;go_wp2;go_ret
   exact⟨j,rfl,⟨fun _=>⟨y,HM.out,HE.out.symm⟩,fun _=>by omega⟩,rfl⟩
  ·have h1:((x:Int)==(y:Int))=false:=by simp[he]
   have HE:=zq he;clear he;go_wp2;go_round
   case rel=>exact⟨j+1,by omega,by go_num,fun q h=>HALL.out q h (fun e=>HE.out e.symm)⟩
   case measure=>simp[intOf];omega
 ·obtain rfl:j=n:=by omega
  go_wp2;go_ret
  refine⟨-1,rfl,⟨fun h=>by omega,fun⟨y,hy,e⟩=>?_⟩,rfl⟩;obtain⟨q,hq1,hq2⟩:=List.getElem_of_mem hy;exact absurd (by rw[List.getD_eq_getElem?_getD,List.getElem?_eq_getElem hq1];simp[hq2,e]) (HQ.out q (by have:=HL.out;omega))
theorem contains_any (A:Option Addr)(n c:Nat)(l:List Nat)(x:Int)(w:World)(hs:Sl w 1 A n c (nats l))(hn:n<=100):
  Calls Tryz.prog 266 #[.slice A n c,.int .i64 x] w fun e w'=>e= .returned (.bool (decide (∃y∈l,(y:Int)=x)))/\w=w':=by
 have HI:=zq (index_any A n c l x w hs hn);obtain⟨b,hb⟩:=geZ (decide (∃y∈l,(y:Int)=x));rw[hb];have HB:=zq hb;clear hs hb;go_enter Tryz.func266,Tryz.ntmps266;go_wp2_with fail;refine HI.out.mono ?_;rintro e w1 ⟨r,rfl,hr,rfl⟩;have HR:=zq hr;clear hr;go_wp2;go_ret
 refine⟨?_,rfl⟩;have h2:decide (0<=r)=b:=by
  rw[<-HB.out];by_cases h:0<=r
  ·rw[decide_eq_true h,decide_eq_true (HR.out.1 h)]
  ·rw[decide_eq_false h,decide_eq_false (fun k=>h (HR.out.2 k))]
 exact congrArg (fun b=>Ending.returned (.bool b)) h2
def timesOf (k:Nat)(n:Int):Nat:=if k=3 then 0 else many k n
theorem times_zero (n:Int)(h:0<=n):(timesOf 0 n:Int)=n:=by
 unfold timesOf many;rw[if_neg (by decide),if_pos rfl];omega
theorem times_only (k:Nat)(n:Int)(h0:k≠0)(h3:k<=3):(timesOf k n:Int)=if decide (∃y∈onlyOf k,(y:Int)=n)=true then 1 else 0:=by
 obtain h|h|h:k=1\/k=2\/k=3:=by omega
 ·subst h
  by_cases e:n=1
  ·subst e;rfl
  ·have: ¬ ∃y∈onlyOf 1,(y:Int)=n:=by rintro⟨y,hy,h⟩;simp[onlyOf]at hy;omega
   rw[decide_eq_false this];simp[timesOf,many,e]
 ·subst h
  by_cases e:n=1
  ·subst e;rfl
  ·by_cases e2:n=2
   ·subst e2;rfl
   ·have: ¬ ∃y∈onlyOf 2,(y:Int)=n:=by rintro⟨y,hy,h⟩;simp[onlyOf]at hy;omega
    rw[decide_eq_false this];simp[timesOf,many,e,e2]
 ·subst h
  have: ¬ ∃y∈onlyOf 3,(y:Int)=n:=by rintro⟨y,hy,_⟩;simp[onlyOf]at hy
  rw[decide_eq_false this];simp[timesOf]
theorem times_le (k:Nat)(n:Int)(_h3:k<=3)(hn:n<=4294967296):timesOf k n<=4294967296:=by
 unfold timesOf many
 repeat' split
 all_goals omega
theorem times_any (v k:Nat)(Ao:Option Addr)(co:Nat)(f:Value)(n:Int)(w:World)(hk:k<=3)(hn:k=0->0<=n)(hs:Sl w 1 Ao (onlyOf k).length co (nats (onlyOf k))):
  Calls Tryz.prog 251 #[.agg #[.int .i64 (v:Int),.bool (decide (k=0)),.slice Ao (onlyOf k).length co,f],.int .i64 n] w fun e w'=>e= .returned (.int .i64 (timesOf k n:Nat))/\Below w.heap.size w w':=by
 by_cases h0:k=0
 ·have ht:=times_zero n (hn h0)
  subst h0;rw[ht];have HB:=zq ((Below.refl w.heap.size w).alloc (Nat.le_refl _) (.cells #[.int .i64 (v:Int),.bool true,.slice Ao 0 co,f] 284));clear hs ht hn;go_enter Tryz.func251,Tryz.ntmps251;go_wp2;go_ret
  exact⟨rfl,HB.out⟩
 ·rw[times_only k n h0 hk,decide_eq_false h0]
  have hlen:(onlyOf k).length<=100:=by
                       unfold onlyOf;repeat' split
                       all_goals decide
  have HC:=zq (fun W (hW:Sl W 1 Ao (onlyOf k).length co (nats (onlyOf k)))=>contains_any Ao _ co (onlyOf k) n W hW hlen);have HS:=zq (hs.beside (.cells #[.int .i64 (v:Int),.bool false,.slice Ao (onlyOf k).length co,f] 284));generalize decide (∃y∈onlyOf k,(y:Int)=n)=b at*;have HC2:=zq (HC.out _ HS.out);have HB:=zq ((Below.refl w.heap.size w).alloc (Nat.le_refl _) (.cells #[.int .i64 (v:Int),.bool false,.slice Ao (onlyOf k).length co,f] 284));generalize (onlyOf k).length=m at*;clear hs hn HC HS hlen h0 hk
  cases b
  all_goals
   go_enter Tryz.func251,Tryz.ntmps251;go_wp2_with fail;refine HC2.out.mono ?_;rintro e w1 ⟨rfl,rfl⟩;go_wp2;go_ret
   exact⟨rfl,HB.out⟩
def KeepWP (w w':World):Prop:= ∀(k:Nat) (cs:Array Value) (t:TypeId) (fr:Nat×Nat),(t=229\/t=284)->w.heap[k]?=some (.cells cs t fr)->w'.heap[k]?=some (.cells cs t fr)
structure FrZ (base lo hi:Nat) (w w':World):Prop where
 b:Below base w w'
 z:Zone lo hi w w'
 t:KeepWP w w'
theorem FrZ.refl (base lo hi:Nat)(w:World):FrZ base lo hi w w:=⟨Below.refl _ _,fun _ _ _=>rfl,fun _ _ _ _ _ h=>h⟩
theorem FrZ.trans {base lo hi:Nat}{a b c:World}(h:FrZ base lo hi a b)(k:FrZ base lo hi b c):FrZ base lo hi a c:=⟨h.b.trans k.b,fun i h1 h2=>(k.z i h1 h2).trans (h.z i h1 h2),fun i cs t fr ht x=>k.t i cs t fr ht (h.t i cs t fr ht x)⟩
theorem frz_call {base lo hi:Nat}{w w':World}(hb:Below w.heap.size w w')(hB:base<=w.heap.size)(hh:hi<=w.heap.size):FrZ base lo hi w w':=
 ⟨hb.mono hB,fun k _ h2=>hb.block k (Nat.lt_of_lt_of_le h2 hh),fun k cs t fr _ h=>by rw[hb.block k (Array.getElem?_eq_some_iff.1 h).1];exact h⟩
theorem frz_store {base lo hi g:Nat}{w:World}{t:TypeId}{cs:Array Value}(hh:Has w g t cs)(ht:t≠229/\t≠284)(hg:base<=g)(hz:g<lo\/hi<=g)(hB:base<=w.heap.size)(i:Nat)(u:Value):FrZ base lo hi w (w.setCell ⟨g,i,none⟩ u):=by
 refine⟨below_store hg hB i u,fun k h1 h2=>Below.heap_setCell w _ u k (by show k≠g;omega),fun k cs' t' fr ht' h=>?_⟩;rw[Below.heap_setCell w ⟨g,i,none⟩ u k (by
  show k≠g
  rintro rfl;unfold Has at hh;rw[hh]at h;injection h with h
  injection h with _ h
  subst h;exact ht'.elim ht.1 ht.2)]
 exact h
theorem frz_grown {base lo hi:Nat}{w w':World}{bb sz n:Nat}{e:TypeId}{v:Value}{xs:List Value}(ho:w.ownsRow bb e sz v n xs)(ht:e≠229/\e≠284)(hB:base<=w.heap.size)(hh:hi<=w.heap.size)(hg:w.grownBy w' v.ownBlock)(h1:base<=bb)(h2: ∀k,v.ownBlock=some k->k<lo\/hi<=k):FrZ base lo hi w w':=by
 refine⟨(Below.refl base w).grown hg hB (fun k hk=>Nat.le_trans h1 (ho.lt k hk).1),fun k a b=>hg.block k (Nat.lt_of_lt_of_le b hh) (fun e=>by have:=h2 k e.symm;omega),fun k cs t fr ht' h=>?_⟩;rw[hg.block k (Array.getElem?_eq_some_iff.1 h).1 (fun e'=>?_)]
 ·exact h
 ·rcases ho.2 with⟨rfl,_⟩|⟨g,cap,cur,rfl,_,hh2,_⟩
  ·simp[Value.ownBlock]at e'
  ·have e2:k=g:=by simpa[Value.ownBlock]using e'
   subst e2;rw[hh2]at h;injection h with h
   injection h with _ h
   subst h;exact ht'.elim ht.1 ht.2
theorem Has.frz {base lo hi g:Nat}{w w':World}{t:TypeId}{cs:Array Value}(h:Has w g t cs)(ht:t=229\/t=284)(hf:FrZ base lo hi w w'):Has w' g t cs:=hf.t g cs t (0,0) ht h
theorem Wd.low {w:World}(h:Wd w):0<w.heap.size:=cell_block (h 0 (by decide))
theorem Wd.frz {base lo hi:Nat}{w w':World}(h:Wd w)(hb:0<base)(hf:FrZ base lo hi w w'):Wd w':=fun i hi=>by
 rw[hf.b.cell (p:=⟨0,i,none⟩) hb];exact h i hi
def panE (e:Int):Ending:= .panicked [{v:= .iface 39 (.int .i64 e),recovered:=false}]
structure NumC (St:World->WS->Prop) (F g base lo hi:Nat):Prop where
 ent: ∀args w,(callFunc F args).run Tryz.prog w= .ok (.enter F args) w
 gb:0<base
 low: ∀w s,St w s->base<=w.heap.size/\hi<=w.heap.size
 under: ∀w w' s,St w s->Below w.heap.size w w'->St w' s
 ok: ∀(v:Nat) (s:WS) (w:World) (k:Nat),v<96->v≠5->St w s->s.e=0->Inv s k->Wd w->(fetch v s).2.e=0->Calls Tryz.prog F #[.pointer (some ⟨g,0,none⟩),.int .i64 (v:Int)] w fun e w'=>e= .returned (.int .i64 (fetch v s).1)/\St w' (keep v (fetch v s).1 (fetch v s).2)/\FrZ base lo hi w w'
 bad: ∀(v:Nat) (s:WS) (w:World) (k:Nat),v<96->v≠5->St w s->s.e=0->Inv s k->Wd w->(fetch v s).2.e≠0->Calls Tryz.prog F #[.pointer (some ⟨g,0,none⟩),.int .i64 (v:Int)] w fun e w'=>e=panE (fetch v s).2.e/\FrZ base lo hi w w'
end
section
open Go.RowKit
mutual
def szPt:Pt->Nat
 | .mk _ k b=>if k=3 then 1 else 1+szPts b
def szPts:List Pt->Nat
 |[]=>0
 |x::l=>szPt x+szPts l
end
theorem szPt_pos (x:Pt):1<=szPt x:=by cases x;rw[szPt];split<;>omega
theorem len_sz: ∀l:List Pt,l.length<=szPts l
 |[]=>Nat.zero_le _
 |x::l=>by rw[List.length_cons,szPts];have:=len_sz l;have:=szPt_pos x;omega
theorem szPts_append (a b:List Pt):szPts (a++b)=szPts a+szPts b:=by
 induction a with
 |nil=>simp[szPts]
 |cons y d ih=>simp only[List.cons_append,szPts,ih];omega
mutual
theorem szPt_le: ∀x:Pt,szPt x<=szL (ndPt x)
 | .mk v k b=>by
  rw[szPt,ndPt];split
  ·simp[szL,szN]
  ·have:=szPts_le b
   simp only[szL,szN];omega
theorem szPts_le: ∀l:List Pt,szPts l<=szL (ndPts l)
 |[]=>by simp[szPts]
 |x::l=>by
  rw[szPts,ndPts,szL_append];have:=szPt_le x;have:=szPts_le l;omega
end
mutual
def no5N:Nd->Bool
 | .v n=>decide (n≠5)
 | .g _ b=>no5L b
def no5L:List Nd->Bool
 |[]=>true
 |x::l=>no5N x &&no5L l
end
theorem good_append (a b:List Nd):goodL (a++b)=(goodL a &&goodL b):=by
 induction a with
 |nil=>simp[goodL]
 |cons x l ih=>simp[goodL,ih,Bool.and_assoc]
theorem no5_append (a b:List Nd):no5L (a++b)=(no5L a &&no5L b):=by
 induction a with
 |nil=>simp[no5L]
 |cons x l ih=>simp[no5L,ih,Bool.and_assoc]
theorem c7_append (a b:List Nd):c7 (a++b)=c7 a+c7 b:=by
 induction a with
 |nil=>simp[c7]
 |cons x l ih=>cases x<;>simp[c7,ih];omega
theorem nd_cons (v k:Nat)(b l:List Pt):ndPts (.mk v k b::l)=(if k=3 then[.v v]else[.v v,.g k (ndPts b)])++ndPts l:=by rw[ndPts,ndPt]
theorem c7_cons (v k:Nat)(b l:List Pt):c7 (ndPts (.mk v k b::l))=(if v=7 then 1 else 0)+c7 (ndPts l):=by
 rw[nd_cons,c7_append];split<;>simp[c7]
theorem good_cons {v k:Nat}{b l:List Pt}(h:goodL (ndPts (.mk v k b::l))=true):v<96/\k<=3/\(k≠3->goodL (ndPts b)=true/\noL (ndPts b)=true)/\goodL (ndPts l)=true:=by
 rw[nd_cons,good_append,Bool.and_eq_true]at h;obtain⟨h1,h2⟩:=h;by_cases hk:k=3
 ·rw[if_pos hk]at h1
  simp only[goodL,goodN,Bool.and_true,decide_eq_true_eq]at h1;exact⟨h1,by omega,fun h=>absurd hk h,h2⟩
 ·rw[if_neg hk]at h1
  simp only[goodL,goodN,Bool.and_true,Bool.and_eq_true,decide_eq_true_eq]at h1;exact⟨h1.1,by omega,fun _=>h1.2.2,h2⟩
theorem no5_cons {v k:Nat}{b l:List Pt}(h:no5L (ndPts (.mk v k b::l))=true):v≠5/\(k≠3->no5L (ndPts b)=true)/\no5L (ndPts l)=true:=by
 rw[nd_cons,no5_append,Bool.and_eq_true]at h;obtain⟨h1,h2⟩:=h;by_cases hk:k=3
 ·rw[if_pos hk]at h1
  simp only[no5L,no5N,Bool.and_true,decide_eq_true_eq]at h1;exact⟨h1,fun h=>absurd hk h,h2⟩
 ·rw[if_neg hk]at h1
  simp only[no5L,no5N,Bool.and_true,Bool.and_eq_true,decide_eq_true_eq]at h1;exact⟨h1.1,fun _=>h1.2,h2⟩
theorem nd_last (l:List Pt)(a b:Int)(s:WS):runL (ndPts l) a s=runL (ndPts l) b s:=by
 cases l with
 |nil=>simp[ndPts,runL]
 |cons x l=>
  cases x with
  |mk v k c=>
   rw[nd_cons];split<;>(simp only[List.cons_append,List.nil_append,runL,runN];try rfl)
theorem run_cons (v k:Nat)(b l:List Pt)(s:WS)(he:s.e=0):runL (ndPts (.mk v k b::l)) 0 s=if(oneS v s).2.e≠0 then(oneS v s).2 else runL (ndPts l) 0 (repS (fun s=>runL (ndPts b) 0 s) (timesOf k (oneS v s).1) (oneS v s).2):=by
 rw[nd_cons];by_cases h:(oneS v s).2.e≠0
 ·rw[if_pos h]
  split
  ·rw[List.cons_append,runL,if_neg (by omega),runN,runL_err _ _ h]
  ·rw[List.cons_append,runL,if_neg (by omega),runN,runL_err _ _ h]
 ·rw[if_neg h]
  by_cases hk:k=3
  ·rw[if_pos hk,List.cons_append,runL,if_neg (by omega),runN,List.nil_append,show timesOf k (oneS v s).1=0 by rw[hk];rfl,repS]
   exact nd_last l _ _ _
  ·rw[if_neg hk,List.cons_append,runL,if_neg (by omega),runN,List.cons_append,runL,if_neg h,runN,List.nil_append,show timesOf k (oneS v s).1=many k (oneS v s).1 by unfold timesOf;rw[if_neg hk]]
   exact nd_last l _ _ _
theorem one_fetch_bad (v:Int)(s:WS)(he:s.e=0)(h:(fetch v s).2.e≠0):(oneS v s).2=(fetch v s).2:=by rw[oneS,if_neg (by omega),if_pos h]
theorem one_may_bad (v:Int)(s:WS)(he:s.e=0)(h:(fetch v s).2.e=0)(hm:mayOf v (fetch v s).1=false):(oneS v s).2= {(fetch v s).2 with e:=20} :=by rw[oneS,if_neg (by omega),if_neg (by omega),if_pos hm]
theorem one_fine (v:Int)(s:WS)(he:s.e=0)(h:(fetch v s).2.e=0)(hm:mayOf v (fetch v s).1=true):oneS v s=((fetch v s).1,keep v (fetch v s).1 (fetch v s).2):=by rw[oneS,if_neg (by omega),if_neg (by omega),if_neg (by rw[hm];decide)]
theorem keep_e (v n:Int)(s:WS):(keep v n s).e=s.e:=by unfold keep;split;rfl;split<;>rfl
def ThruPost (St:World->WS->Prop)(base lo hi:Nat)(w:World)(R:WS)(e:Ending)(w':World):Prop:=
 ((R.e=0/\e= .returned (.tuple #[])/\St w' R)\/(R.e≠0/\e=panE R.e))/\FrZ base lo hi w w'
theorem ThruPost.fine {St:World->WS->Prop}{base lo hi:Nat}{w:World}{R:WS}{e:Ending}{w':World}(h:ThruPost St base lo hi w R e w')(h0:R.e=0):e= .returned (.tuple #[])/\St w' R/\FrZ base lo hi w w':=by
 rcases h.1 with⟨_,h1,h2⟩|⟨h1,_⟩
 ·exact⟨h1,h2,h.2⟩
 ·exact absurd h0 h1
theorem ThruPost.bad {St:World->WS->Prop}{base lo hi:Nat}{w:World}{R:WS}{e:Ending}{w':World}(h:ThruPost St base lo hi w R e w')(h0:R.e≠0):e=panE R.e/\FrZ base lo hi w w':=by
 rcases h.1 with⟨h1,_⟩|⟨_,h1⟩
 ·exact absurd h1 h0
 ·exact⟨h1,h.2⟩
end
section
open Go.RowKit
theorem through_any {St:World->WS->Prop}{F g base lo hi:Nat}(NC:NumC St F g base lo hi): ∀(N:Nat),N<=1000-> ∀l:List Pt,szPts l<N->goodL (ndPts l)=true->no5L (ndPts l)=true-> ∀(s:WS) (w:World) (A:Option Addr) (n c k:Nat),St w s->s.e=0->Inv s (k+c7 (ndPts l))->Wd w->Parts lo hi w A n c l->
  Calls Tryz.prog 214 #[.agg #[.func (.func F) #[.pointer (some ⟨g,0,none⟩)] #[]],.slice A n c] w (ThruPost St base lo hi w (runL (ndPts l) 0 s)):=by
 intro N
 induction N with
 |zero=>intro _ l h;exact absurd h (by omega)
 |succ N ih=>
  intro hN l hsz hgood hno5 s w A n c k hst he hinv hwd hpt;have IH:=zq (ih (by omega));clear ih;obtain⟨R,hR⟩:=geZ (runL (ndPts l) 0 s);rw[hR];have hlen:=hpt.len;have hn1:n<=1000:=by have:=len_sz l;omega
  have hent:=NC.ent;obtain⟨low1,low2⟩:=NC.low w s hst;have hb0:Below w.heap.size w (w.alloc (.cells #[.func (.func F) #[.pointer (some ⟨g,0,none⟩)] #[]] 229)):=bA;have HF0:=zq (frz_call (lo:=lo) hb0 low1 low2);have HS0:=zq (NC.under _ _ _ hst hb0);have HW0:Hid (Has (w.alloc (.cells #[.func (.func F) #[.pointer (some ⟨g,0,none⟩)] #[]] 229)) w.heap.size 229 #[.func (.func F) #[.pointer (some ⟨g,0,none⟩)] #[]]):=Has.made _ _ _;have HNC:=zq NC;have HP0:=zq hpt;have HI0:=zq hinv;have HG0:=zq hgood;have H50:=zq hno5;have HR:=zq hR;have HSZ:=zq hsz;have HLEN:=zq hlen;have HWD:=zq hwd;have HE0:=zq he;clear hst hinv hgood hno5 hR hsz hlen hwd hpt NC hb0 low1 low2 he;go_enter Tryz.func214,Tryz.ntmps214;go_wp2;go_loopg [9] n (fun kk iv wl=> ∃(done rest:List Pt) (s':WS),l=done++rest/\rest.length<=kk/\iv= .int .i64 done.length/\St wl s'/\s'.e=0/\Has wl w.heap.size 229 #[.func (.func F) #[.pointer (some ⟨g,0,none⟩)] #[]]/\FrZ base lo hi w wl/\Inv s' (k+c7 (ndPts rest))/\goodL (ndPts rest)=true/\no5L (ndPts rest)=true/\runL (ndPts rest) 0 s'=R)
  case atStart=>exact⟨[],l,s,rfl,by rw[HLEN.out];exact Nat.le_refl _,rfl,HS0.out,HE0.out,HW0.out,HF0.out,HI0.out,HG0.out,H50.out,HR.out⟩
  obtain⟨done,rest,s',hl,hkk,rfl,hst,he,hbx,hfr,hinv,hgood,hno5,hrun⟩:=hrel;obtain⟨w1,hw1⟩: ∃w1,w1=wr:=⟨_,rfl⟩
  subst hw1;obtain⟨g1,hg1⟩: ∃g1,g1=gk:=⟨_,rfl⟩
  subst hg1;obtain⟨i,hi⟩:=geZ (done.length);have hnl:n=i+rest.length:=by rw[<-HLEN.out,hl,List.length_append,hi]
  rw[hi];have HL:=zq hl;have HFR:=zq hfr;have HINV:=zq hinv;have HGD:=zq hgood;have H5:=zq hno5;have HRUN:=zq hrun;have HST:=zq hst;have HE:=zq he;have HI:=zq hi;have HBX:=zq hbx;have HKK:=zq hkk;have HNL:=zq hnl;clear hl hfr hinv hgood hno5 hrun hst he hi hbx HS0 HW0 HF0 HI0 HG0 H50 HR HE0 hkk
  cases rest with
  |nil=>
   have hin: ¬(i:Int)<n:=by have:=HNL.out;simp at this;omega
   have hR2:R=s':=by have:=HRUN.out;simp only[ndPts,runL]at this;exact this.symm
   clear hnl;subst hR2;go_wp2;refine bodyPost_end (results_none rfl _ _ _) rfl ?_;exact⟨.inl ⟨HE.out,rfl,HST.out⟩,HFR.out⟩
  |cons x l2=>
   cases x with
   |mk v kd b=>
    have hin:(i:Int)<n:=by have:=HNL.out;rw[List.length_cons]at this;omega
    have hi0:(0:Int)<=i:=by omega
    have hg1:1<=g1/\l2.length<=g1-1:=by have:=HKK.out;rw[List.length_cons]at this;omega
    obtain⟨hg1,hg2⟩:=hg1;clear hnl;obtain⟨hv,hkd,hgb,hgl⟩:=good_cons HGD.out;obtain⟨hv5,h5b,h5l⟩:=no5_cons H5.out;have hrc:=run_cons v kd b l2 s' HE.out;rw[HRUN.out]at hrc
    -- the part's cells
    have hpt1:=HP0.out.keep HFR.out.z (Nat.le_refl _) (Nat.le_refl _);obtain⟨cs,hz,hat⟩:=hpt1.mem;obtain⟨c1,c2,c3,hcs,hc1,hx⟩:=ptsAt_at done (.mk v kd b) l2 HL.out hat
    rw[PtAt]at hx;obtain⟨Ao,co,Af,nf,cf,fc,rfl,ho,hbl,hnf,hf1,hf2⟩:=hx;have hcell: ∀q u,[Value.int .i64 (v:Int),.bool (decide (kd=0)),.slice Ao (onlyOf kd).length co,.slice Af nf cf][q]?=some u->cs[i*4+q]?=some u:=fun q u hq=>by
     rw[hcs,List.append_assoc,List.getElem?_append_right (by rw[hc1,HI.out];omega),hc1,HI.out,show i*4+q-i*4=q by omega];rw[List.getElem?_append_left (List.getElem?_eq_some_iff.1 hq).1];exact hq
    obtain⟨pb,po,rfl,k0⟩:=hz.sl.at_ (hcell 0 _ rfl);have kq: ∀q u,[Value.int .i64 (v:Int),.bool (decide (kd=0)),.slice Ao (onlyOf kd).length co,.slice Af nf cf][q]?=some u->w1.cell? ⟨pb,po+i*4+q,none⟩=some u:=fun q u hq=>by
     obtain⟨pb',po',e,h⟩:=hz.sl.at_ (hcell q u hq);simp only[Option.some.injEq,Addr.mk.injEq,and_true]at e;obtain⟨rfl,rfl⟩:=e;rw[Nat.add_assoc];exact h
    have k0:=kq 0 _ rfl;have k1:=kq 1 _ rfl;have k2:=kq 2 _ rfl;have k3:=kq 3 _ rfl;rw[Nat.add_zero]at k0;have hbp:Parts lo hi w1 Af nf cf b:=⟨hbl,hnf,fc,hf1,hf2⟩
    have HBP:=zq hbp;have HO:=zq ho;have HRC:=zq hrc;have HGB:=zq hgb;have H5B:=zq h5b;have HGL:=zq hgl;have H5L:=zq h5l;have HWD1:=zq (HWD.out.frz HNC.out.gb HFR.out);obtain⟨lw1,lw2⟩:=HNC.out.low _ _ HST.out
    -- the part's own block
    obtain⟨m,hm⟩:=geZ ((onlyOf kd).length);rw[hm]at k2;obtain⟨z0,hz0⟩:=geZ (decide (kd=0));rw[hz0]at k1;have HM:=zq hm;have HZ0:=zq hz0;have hb2:Below w1.heap.size w1 (w1.alloc (.cells #[.int .i64 (v:Int),.bool z0,.slice Ao m co,.slice Af nf cf] 284)):=bA;have HP2:Hid (Has (w1.alloc (.cells #[.int .i64 (v:Int),.bool z0,.slice Ao m co,.slice Af nf cf] 284)) w1.heap.size 284 #[.int .i64 (v:Int),.bool z0,.slice Ao m co,.slice Af nf cf]):=Has.made _ _ _;have HF2:=zq (frz_call (lo:=lo) hb2 lw1 lw2);have HST2:=zq (HNC.out.under _ _ _ HST.out hb2);have HBX2:=zq (HBX.out.frz (.inl rfl) HF2.out);have HWD2:=zq (HWD1.out.frz HNC.out.gb HF2.out);have x0:(w1.alloc (.cells #[.int .i64 (v:Int),.bool z0,.slice Ao m co,.slice Af nf cf] 284)).cell? ⟨w.heap.size,0,none⟩=some (.func (.func F) #[.pointer (some ⟨g,0,none⟩)] #[]):=by rw[HBX2.out.cell];rfl
    have x00:w1.cell? ⟨w.heap.size,0,none⟩=some (.func (.func F) #[.pointer (some ⟨g,0,none⟩)] #[]):=by rw[HBX.out.cell];rfl
    clear kq hcell hz hat hcs hc1 hf1 hf2 ho hbl hnf hpt1 hrc hgb h5b hgl h5l hbp hm hz0 HST HBX HWD1 HP0 hb2;obtain⟨n1,hn1e⟩:=geZ ((fetch v s').1);by_cases hf:(fetch v s').2.e=0
    ·have HC:=zq (HNC.out.ok v s' _ _ hv hv5 HST2.out HE.out HINV.out HWD2.out hf)
     have HINO:=zq (inv_oneN v hv s' (k+c7 (ndPts l2)) (by have:=HINV.out;rw[c7_cons]at this;exact inv_less this (by omega)));have hbad:=one_may_bad v s' HE.out hf;have hfine:=one_fine v s' HE.out hf;rw[hn1e]at HC hbad hfine;have HBAD:=zq hbad;have HFINE:=zq hfine;have HFE:=zq hf;clear hf hbad hfine hn1e;go_wp2_with fail;refine HC.out.mono ?_;rintro e w3 ⟨rfl,hst3,hf3⟩;have HST3:=zq hst3;have HF3:=zq ((HFR.out.trans HF2.out).trans hf3);have HF13:=zq (HF2.out.trans hf3);have HBX3:=zq (HBX2.out.frz (.inl rfl) hf3);have HP3:=zq (HP2.out.frz (.inr rfl) hf3);have HWD3:=zq (HWD2.out.frz HNC.out.gb hf3);have y0:w3.cell? ⟨w1.heap.size,0,none⟩=some (.int .i64 (v:Int)):=by rw[HP3.out.cell];rfl
     have y1:w3.cell? ⟨w1.heap.size,1,none⟩=some (.bool z0):=by rw[HP3.out.cell];rfl
     have y2:w3.cell? ⟨w1.heap.size,2,none⟩=some (.slice Ao m co):=by rw[HP3.out.cell];rfl
     have y3:w3.cell? ⟨w1.heap.size,3,none⟩=some (.slice Af nf cf):=by rw[HP3.out.cell];rfl
     have HM3:=zq (may_var v n1 w3 HWD3.out);clear hst3 hf3 x0 x00 k0 k1 k2 k3 HC HST2 HBX2 HP2 HWD2 HF2
     cases hmay:mayOf v n1
     ·rw[hmay]at HM3
      have hone:=HBAD.out hmay;have hrc:=HRC.out;rw[hone,if_pos (show(20:Int)≠0 by decide)]at hrc;have HRE:Hid (R.e=20):=zq (by rw[hrc]);clear hone hrc hmay;go_wp2_with fail;refine HM3.out.mono ?_;rintro e w4 ⟨rfl,rfl⟩;go_wp2;exact⟨rfl,.inr ⟨by rw[HRE.out];decide,by rw[HRE.out];rfl⟩,HF3.out⟩
     ·rw[hmay]at HM3
      have hone:=HFINE.out hmay;have hrc:=HRC.out;obtain⟨s2,hs2⟩:=geZ (keep v n1 (fetch v s').2);have hs2e:s2.e=0:=by rw[<-hs2,keep_e];exact HFE.out
      have hino:=HINO.out;rw[hs2]at hone HST3;rw[hone]at hrc hino;rw[if_neg (show¬s2.e≠0 by omega)]at hrc;have hnl:=may_fit v hv n1 hmay;have hn32:=may_small v hv n1 hmay;obtain⟨M,hM⟩:=geZ (timesOf kd n1);have hMb:=times_le kd n1 hkd hn32;rw[hM]at hrc hMb;obtain⟨S3,hS3⟩:=geZ (repS (fun s=>runL (ndPts b) 0 s) M s2);rw[hS3]at hrc;have HO3:=HO.out.keep HF13.out.z (Nat.le_refl _) (Nat.le_refl _);have HT:=times_any v kd Ao co (.slice Af nf cf) n1 w3 hkd (fun _=>hnl.1) HO3.sl;rw[HM.out,HZ0.out,hM]at HT;have HT:=zq HT;have HRC2:=zq hrc;have HINO2:=zq hino;have HS2E:=zq hs2e;have HS3:=zq hS3;have HMM:=zq hM;have BS:=zq (HNC.out.low _ _ HST3.out);clear hone hrc hs2 hs2e hino hnl hn32 hM hS3 HO3 hmay HBAD HFINE HFE HINO HRC HO;go_wp2_with fail;refine HM3.out.mono ?_;rintro e w4 ⟨rfl,rfl⟩;go_wp2_with fail;refine HT.out.mono ?_;rintro e w5 ⟨rfl,hb5⟩;have hf5:=frz_call (lo:=lo) hb5 BS.out.1 BS.out.2;have HST5:=zq (HNC.out.under _ _ _ HST3.out hb5);have HBX5:=zq (HBX3.out.frz (.inl rfl) hf5);have HP5:=zq (HP3.out.frz (.inr rfl) hf5);have HF5:=zq (HF3.out.trans hf5);have HF15:=zq (HF13.out.trans hf5);clear hb5 hf5 HT HM3 y0 y1 y2 y3 HST3 HBX3 HP3 HWD3 HF3 HF13;go_wp2;go_loopg [27] M (fun kq iv wl=> ∃(j:Nat) (s4:WS),j<=M/\M-j<=kq/\iv= .int .i64 j/\St wl s4/\s4.e=0/\Has wl w.heap.size 229 #[.func (.func F) #[.pointer (some ⟨g,0,none⟩)] #[]]/\Has wl w1.heap.size 284 #[.int .i64 (v:Int),.bool z0,.slice Ao m co,.slice Af nf cf]/\FrZ base lo hi w wl/\FrZ base lo hi w1 wl/\Inv s4 (k+c7 (ndPts l2))/\repS (fun s=>runL (ndPts b) 0 s) (M-j) s4=S3)
      case atStart=>exact⟨0,s2,by omega,by omega,rfl,HST5.out,HS2E.out,HBX5.out,HP5.out,HF5.out,HF15.out,HINO2.out,HS3.out⟩
      obtain⟨j,s4,hj,hjk,rfl,hst,he4,hbx,hpp,hfr4,hf14,hinv4,hrep⟩:=hrel;have HWD4:=zq (HWD.out.frz HNC.out.gb hfr4);have y3:wr.cell? ⟨w1.heap.size,3,none⟩=some (.slice Af nf cf):=by rw[hpp.cell];rfl
      have y4:wr.cell? ⟨w.heap.size,0,none⟩=some (.func (.func F) #[.pointer (some ⟨g,0,none⟩)] #[]):=by rw[hbx.cell];rfl
      have HST4:=zq hst;have HBX4:=zq hbx;have HP4:=zq hpp;have HF4:=zq hfr4;have HF14:=zq hf14;have HI4:=zq hinv4;have HREP:=zq hrep;have HE4:=zq he4;clear hst hbx hpp hfr4 hf14 hinv4 hrep he4 HST5 HBX5 HP5 HF5 HF15;by_cases hlt:j<M
      ·have hk3:kd≠3:=fun e=>by
        have:=HMM.out;rw[e]at this;simp[timesOf]at this;omega
       have hszb:szPts b<N:=by
        have:=HSZ.out;have h1:szPts l=szPts done+szPts (.mk v kd b::l2):=by rw[HL.out,szPts_append]
        have h2:szPts (.mk v kd b::l2)=1+szPts b+szPts l2:=by rw[szPts,szPt,if_neg hk3]
        omega
       obtain⟨hg5,hno7⟩:=HGB.out hk3;have hrep:=HREP.out;rw[show M-j=(M-(j+1))+1 by omega,repS,if_neg (by rw[HE4.out];decide)]at hrep;have hcl:=IH.out b hszb hg5 (H5B.out hk3) s4 wr Af nf cf (k+c7 (ndPts l2)) HST4.out HE4.out (by rw[noL_c7 _ hno7];exact HI4.out) HWD4.out (HBP.out.keep HF14.out.z (Nat.le_refl _) (Nat.le_refl _));have hin5:=inv_runL (ndPts b) 0 s4 (k+c7 (ndPts l2)) hg5 (by rw[noL_c7 _ hno7];exact HI4.out);obtain⟨s6,hs6⟩:=geZ (runL (ndPts b) 0 s4);simp only[hs6]at hcl hrep hin5;have HCL:=zq hcl;have HREP2:=zq hrep;have HIN5:=zq hin5;have x0:(0:Int)<=j:=by omega
       have x1:(j:Int)<M:=by omega
       clear hcl hrep hin5 hs6 hno7 hg5 hszb hk3 HREP;by_cases h6:s6.e=0
       ·have HCC:=zq (HCL.out.mono fun e w' h=>h.fine h6)
        have H6:=zq h6;clear h6 HCL;go_wp2_with fail;refine HCC.out.mono ?_;rintro e w6 ⟨rfl,hst6,hf6⟩;have HST6:=zq hst6;have HF6:=zq hf6;clear hst6 hf6 HCC y3 y4;go_wp2;go_roundg (gk-1)
        case measure=>omega
        case rel=>exact⟨j+1,s6,by omega,by omega,by go_num,HST6.out,H6.out,HBX4.out.frz (.inl rfl) HF6.out,HP4.out.frz (.inr rfl) HF6.out,HF4.out.trans HF6.out,HF14.out.trans HF6.out,HIN5.out,HREP2.out⟩
       ·have HCC:=zq (HCL.out.mono fun e w' h=>h.bad h6)
        have hrep:=HREP2.out;rw[repS_err _ _ h6]at hrep;have hrc:=HRC2.out;rw[<-hrep,runL_err _ _ h6]at hrc;have HRE:Hid (R.e=s6.e):=zq (by rw[hrc]);have H6:=zq h6;clear h6 hrep hrc HCL;unfold panE at HCC;go_wp2_with fail;refine HCC.out.mono ?_;rintro e w6 ⟨rfl,hf6⟩;have HF6:=zq hf6;clear hf6 HCC y3 y4;go_wp2;exact⟨rfl,.inr ⟨by rw[HRE.out];exact H6.out,by rw[HRE.out];rfl⟩,HF4.out.trans HF6.out⟩
      ·obtain rfl:j=M:=by omega
       have hrep:=HREP.out;rw[Nat.sub_self,repS]at hrep;have hrc:=HRC2.out;rw[<-hrep]at hrc;have HRC3:=zq hrc.symm;clear hrep hrc y3 y4;go_wp2;go_roundg (g1-1)
       case measure=>omega
       case rel=>exact⟨done++[.mk v kd b],l2,s4,by rw[HL.out];simp,hg2,by rw[List.length_append,HI.out];rfl,HST4.out,HE4.out,HBX4.out,HF4.out,HI4.out,HGL.out,H5L.out,HRC3.out⟩
    ·have HC:=zq (HNC.out.bad v s' _ _ hv hv5 HST2.out HE.out HINV.out HWD2.out hf)
     have hone:=one_fetch_bad v s' HE.out hf;have hrc:=HRC.out;rw[hone,if_pos hf]at hrc;have HRE:Hid (R.e=(fetch v s').2.e):=zq (by rw[hrc]);have HFN:=zq hf;clear hone hrc hf hn1e;unfold panE at HC;go_wp2_with fail;refine HC.out.mono ?_;rintro e w3 ⟨rfl,hf3⟩;have HF3:=zq ((HFR.out.trans HF2.out).trans hf3);clear hf3;go_wp2;exact⟨rfl,.inr ⟨by rw[HRE.out];exact HFN.out,by rw[HRE.out];rfl⟩,HF3.out⟩
end
section
open Go.RowKit
theorem wpList_push2 {P:Program}{ops:Array Oper}{rest:List Oper}{o:Oper}{a:Act}{w:World}{Q:Exit->Act->World->Prop}(hgd:o.guard=none)(s x:Operand)(t:TypeId)
  (ho:o.op= .call {callee:= .builtin .append,args:=#[s,x],argTypes:=#[t,t]})
  (base:Nat) (e:TypeId) (z:Value) (size bytes:Nat) (ht:P.underlying t=some (.slice e)) (hinfo:(P.info? e).map (fun i=>(i.zero,i.size,i.bytes))=some (some z,size,bytes))
  (hzs:z.cells.size=size) (hsz:0<size)
  (A:Option Addr) (n c:Nat) (xs:List Value) (hs:a.eval s= .slice A n c) (hown:Hid (w.ownsRow base e size (.slice A n c) n xs))
  (ad:Addr) (m cc:Nat) (news:List Value) (hx:a.eval x= .slice (some ad) m cc) (hl:Hid (news.length=m*size)) (hnews:Hid (∀j u,news[j]?=some u->w.cell? (ad.add j)=some u)) (h1:Hid (∀u∈news,u.oneCell'=true))
  (hb:Hid (n+m<=maxLen/\(n+m)*bytes<=140737488355328/\base<=w.heap.size))
  (h: ∀A' c' w',Hid (w'.ownsRow base e size (.slice A' (n+m) c') (n+m) (xs++news))->Hid (w.grownBy w' (Value.ownBlock (.slice A n c)))->Hid (Value.ownBlock (.slice A' (n+m) c')=Value.ownBlock (.slice A n c)\/Value.ownBlock (.slice A' (n+m) c')=some w.heap.size)->
   wpList P ops Q rest (a.put o.dst (.slice A' (n+m) c')) w'):wpList P ops Q (o::rest) a w:=by
 obtain⟨i,hi,hz,hsize,hby⟩:=info_parts hinfo;refine wpList_append_own_at w hgd s x t ho base e i z size bytes ht hi hz hsize hby hzs hsz (.slice A n c) n xs hs hown.out ad m cc news hx hl.out hnews.out h1.out hb.out.1 hb.out.2.1 hb.out.2.2 ?_;intro v' w' h2 h3 _ h5;obtain⟨A',c',rfl⟩:=own_shape h2;exact h A' c' w' h2 h3 h5
structure EnR (base lo hi:Nat) (w:World) (s:WS) (AV:Option Addr) (nV cV:Nat) (AO:Option Addr) (nO cO:Nat):Prop where
 v:SlI base w AV nV cV s.V
 len:s.out.length=nO
 o:w.ownsRow base 185 2 (.slice AO nO cO) nO (pairs s.out)
 oz: ∀k,Value.ownBlock (.slice AO nO cO)=some k->k<lo\/hi<=k
 wid: ∀x∈s.out,0<=x.2/\x.2<=64
def enCells (id:Int)(s:WS)(size:Int)(AV:Option Addr)(nV cV:Nat)(AO:Option Addr)(nO cO:Nat):Array Value:=#[.int .i64 id,.slice AV nV cV,.slice AO nO cO,.int .i64 size,.int .i64 s.place]
structure EnAt (base lo hi g:Nat) (id:Int) (w:World) (s:WS):Prop where
 gb:base<=g
 gz:g<lo\/hi<=g
 sz:base<=w.heap.size/\hi<=w.heap.size
 rd:s.rd=false
 mem: ∃AV nV cV AO nO cO,Has w g 227 (enCells id s (totalOf s.out) AV nV cV AO nO cO)/\EnR base lo hi w s AV nV cV AO nO cO
section
variable {base lo hi g:Nat} {w w':World} {s:WS} {AV:Option Addr} {nV cV:Nat} {AO:Option Addr} {nO cO:Nat} {id:Int}
theorem EnR.under (h:EnR base lo hi w s AV nV cV AO nO cO)(hb:Below w.heap.size w w')(hB:base<=w.heap.size):EnR base lo hi w' s AV nV cV AO nO cO:=
 ⟨h.v.below (hb.mono hB),h.len,own_under h.o hb (Nat.le_refl _),h.oz,h.wid⟩
theorem EnAt.under (h:EnAt base lo hi g id w s)(hb:Below w.heap.size w w'):EnAt base lo hi g id w' s:=by
 obtain⟨AV,nV,cV,AO,nO,cO,h1,h2⟩:=h.mem;exact⟨h.gb,h.gz,⟨Nat.le_trans h.sz.1 hb.size,Nat.le_trans h.sz.2 hb.size⟩,h.rd,AV,nV,cV,AO,nO,cO,h1.u hb,h2.under hb h.sz.1⟩
theorem EnR.store {cs:Array Value}(h:EnR base lo hi w s AV nV cV AO nO cO)(hh:Has w g 227 cs)(hg:base<=g)(hB:base<=w.heap.size)(i:Nat)(u:Value):EnR base lo hi (w.setCell ⟨g,i,none⟩ u) s AV nV cV AO nO cO:=by
 have hgr:w.grownBy (w.setCell ⟨g,i,none⟩ u) (some g):=only_store (only_refl w (some g)) rfl u;exact⟨h.v.below (below_store hg hB i u),h.len,own_keep h.o hgr (own_apart h.o hh (by decide)),h.oz,h.wid⟩
theorem en_store {cs:Array Value}(hh:Has w g 227 cs)(hg:base<=g)(hz:g<lo\/hi<=g)(hB:base<=w.heap.size)(i:Nat)(u:Value):FrZ base lo hi w (w.setCell ⟨g,i,none⟩ u):=
 frz_store hh (by decide) hg hz hB i u
theorem EnR.grow (h:EnR base lo hi w s AV nV cV AO nO cO)(hB:base<=w.heap.size)(hh:hi<=w.heap.size)(n k:Int)(hk:0<=k/\k<=64)(A':Option Addr)(c':Nat)(ho:w'.ownsRow base 185 2 (.slice A' (nO+1) c') (nO+1) (pairs s.out++[.int .i64 n,.int .i64 k]))(hg:w.grownBy w' (Value.ownBlock (.slice AO nO cO)))
  (hb:Value.ownBlock (.slice A' (nO+1) c')=Value.ownBlock (.slice AO nO cO)\/Value.ownBlock (.slice A' (nO+1) c')=some w.heap.size):
  EnR base lo hi w' {s with out:=s.out++[(n,k)]} AV nV cV A' (nO+1) c'/\FrZ base lo hi w w':=by
 have hf:FrZ base lo hi w w':=frz_grown h.o (by decide) hB hh hg (Nat.le_refl _) h.oz;refine⟨⟨h.v.below hf.b,by simp[h.len],by simpa[pairs]using ho,fun k hk=>?_,fun x hx=>?_⟩,hf⟩
 ·rcases hb with e|e
  ·rw[e]at hk;exact h.oz k hk
  ·rw[e]at hk;injection hk with hk;omega
 ·rcases List.mem_append.1 hx with hx|hx
  ·exact h.wid x hx
  ·rw[List.mem_singleton]at hx;subst hx;exact hk
end
theorem next_nil (base lo hi g:Nat)(id:Int)(s:WS)(w:World)(h:EnAt base lo hi g id w s)(hV:s.V=[]):
  Calls Tryz.prog 211 #[.pointer (some ⟨g,0,none⟩)] w fun e w'=>e=panE 20/\w=w':=by
 obtain⟨AV,nV,cV,AO,nO,cO,h1,h2⟩:=h.mem;have hn:nV=0:=by rw[<-h2.v.len,hV];rfl
 subst hn;have k1:w.cell? ⟨g,1,none⟩=some (.slice AV 0 cV):=by rw[h1.cell];rfl
 clear h1 h2 h;unfold panE;go_enter Tryz.func211,Tryz.ntmps211;go_wp2;exact⟨rfl,rfl,rfl⟩
theorem next_some (base lo hi g:Nat)(id:Int)(s:WS)(V0:Int)(VT:List Int)(w:World)(h:EnAt base lo hi g id w s)(hV:s.V=V0::VT):
  Calls Tryz.prog 211 #[.pointer (some ⟨g,0,none⟩)] w fun e w'=>e= .returned (.int .i64 V0)/\EnAt base lo hi g id w' {s with V:=VT} /\FrZ base lo hi w w':=by
 obtain⟨AV,nV,cV,AO,nO,cO,h1,h2⟩:=h.mem;obtain⟨m,hm⟩: ∃m,nV=m+1:=⟨nV-1,by rw[<-h2.v.len,hV];simp⟩
 subst hm;have hne:(((m+1:Nat):Int)==0)=false:=by rw[beq_eq_false_iff_ne];omega
 obtain⟨vb,voff,rfl,hcv⟩:=h2.v.sl.at_ (j:=0) (u:= .int .i64 V0) (by rw[hV];rfl);rw[Nat.add_zero]at hcv;have hcapv:=h2.v.cap;have hsl:=h2.v.sl.from_ hcapv (p:=1) (by omega);have hbk:=from_block (A:=some ⟨vb,voff,none⟩) (c:=cV) (p:=1);obtain⟨A2,hA2⟩:=geZ ((if cV=1 then some (⟨vb,voff,none⟩:Addr)else(some (⟨vb,voff,none⟩:Addr)).map (·.add (1*1))));have e1: ∀w,(Instr.sliceAt 22 (.slice (some ⟨vb,voff,none⟩) (m+1) cV) (some (.int .i64 1)) none none).run Tryz.prog w= .ok (.slice A2 m (cV-1)) w:=by
  intro w;have:=cut_from 22 3 Tryz.underlying22 (by kernel_rfl) (by kernel_rfl) (some ⟨vb,voff,none⟩) (m+1) cV 1 (by omega) w;rw[hA2]at this;exact this
 rw[hA2]at hsl hbk;have hlow:low base A2:=fun a' ha'=>by
  obtain⟨a,h3,h4⟩:=hbk a' ha';rw[h4];exact h2.v.low (by omega) a h3
 have hVT:SlI base w A2 m (cV-1) VT:=⟨by have:=h2.v.len;rw[hV]at this;simpa using this,by omega,by rw[hV]at hsl;exact hsl,fun _=>hlow⟩
 have k1:w.cell? ⟨g,1,none⟩=some (.slice (some ⟨vb,voff,none⟩) (m+1) cV):=by rw[h1.cell];rfl
 have z1:=h1.thaw 1;have HVT:=zq hVT;have H:=zq h;have H1:=zq h1;have H2:=zq h2;clear hVT hlow hsl hbk hA2 hV h1 h2 h;go_enter Tryz.func211,Tryz.ntmps211;go_wp2;go_ret
 have hf:=en_store (lo:=lo) (hi:=hi) H1.out H.out.gb H.out.gz H.out.sz.1 1 (.slice A2 m (cV-1));have hr:=H2.out.store H1.out H.out.gb H.out.sz.1 1 (.slice A2 m (cV-1));exact⟨rfl,⟨H.out.gb,H.out.gz,⟨Nat.le_trans H.out.sz.1 hf.b.size,Nat.le_trans H.out.sz.2 hf.b.size⟩,H.out.rd,A2,m,cV-1,AO,nO,cO,H1.out.stored 1 _,⟨HVT.out.below hf.b,hr.len,hr.o,hr.oz,hr.wid⟩⟩,hf⟩
end
end Go.Proofs.YtahadmeilajdgaaGreatDoor
