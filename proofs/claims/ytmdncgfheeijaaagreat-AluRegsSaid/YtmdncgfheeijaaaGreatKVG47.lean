import Derived.Test.YtmdncgfheeijaaaGreatKVG10
import Derived.Test.YtmdncgfheeijaaaGreatKVG51
namespace Go.Proofs.YtmdncgfheeijaaaGreat
open Go.ChangeShapes Go.WideShapes Go.ChangeAt Go.RowKit
section
attribute [local go_sem] signed_u32 max_u32
set_option maxRecDepth 100000
set_option maxHeartbeats 40000000
theorem rdone_c(rb:Nat)(R:Nat→Prop)(g:Int→Int)(cc dd:Sg)(s:Sta)(I:Ins)(x y:Int)(hs:StaOk s)(hA:0≤I.a.disp∧I.a.disp<4294967296)(hB:0≤I.b.disp∧I.b.disp<4294967296)(hc:0≤I.c∧I.c<4294967296)(x0:0≤x)(x1:x<4294967296)(y0:0≤y)(y1:y<4294967296)(w:World)(hR:RBus w rb R g cc dd)(hop:I.op∈([35,36,25,26,27,28,29,30]:List Int)):
  Calls Tryz.prog 82 #[.pointer (some ⟨rb,0,none⟩),staV s,insV I,.int .u32 x,.int .u32 y] w fun e w'=>e=.returned (.tuple #[staV (doneT dd s I x y),.int .i64 (doneE dd s I x y)])∧RBus w' rb R (doneG g dd s I x y) cc dd∧But R w w':=by
 have HS:=Lib.hid hs
 have HR:=Lib.hid hR
 have HOP:=Lib.hid hop
 clear hop
 obtain⟨op,cond,n,⟨ak,ar,ab,ai,ac,ad⟩,⟨bk,br,bb,bi,bc,bd⟩,c,rep,len⟩:=I
 obtain⟨FT0,hFT⟩:∃z,doneT dd s ⟨op,cond,n,⟨ak,ar,ab,ai,ac,ad⟩,⟨bk,br,bb,bi,bc,bd⟩,c,rep,len⟩ x y=z:=⟨_,rfl⟩
 obtain⟨FE0,hFE⟩:∃z,doneE dd s ⟨op,cond,n,⟨ak,ar,ab,ai,ac,ad⟩,⟨bk,br,bb,bi,bc,bd⟩,c,rep,len⟩ x y=z:=⟨_,rfl⟩
 obtain⟨FG0,hFG⟩:∃z,doneG g dd s ⟨op,cond,n,⟨ak,ar,ab,ai,ac,ad⟩,⟨bk,br,bb,bi,bc,bd⟩,c,rep,len⟩ x y=z:=⟨_,rfl⟩
 have HFT:=Lib.hid hFT
 have HFE:=Lib.hid hFE
 have HFG:=Lib.hid hFG
 have A0:=hA.1
 have A1:=hA.2
 have B0:=hB.1
 have B1:=hB.2
 dsimp only at A0 A1 B0 B1
 rw[hFT,hFE,hFG]
 clear hs hR hA hB hc hFT hFE hFG
 unfold staV insV insC
 go_enter Tryz.func82,Tryz.ntmps82
 go_upto_region 1 with fail
 obtain⟨W,hW⟩:∃W,W=((w.alloc (.cells (staL s).toArray 29)).alloc (.cells #[.int .i64 op,.int .i64 cond,.int .i64 n,.int .i64 ak,.int .i64 ar,.int .i64 ab,.int .i64 ai,.int .i64 ac,.int .u32 ad,.int .i64 bk,.int .i64 br,.int .i64 bb,.int .i64 bi,.int .i64 bc,.int .u32 bd,.int .u32 c,.bool rep,.int .i64 len] 34)).alloc (.cells #[.int .u32 0,.int .u32 0,.int .u32 0,.int .u32 0,.int .u32 0,.int .u32 0,.int .u32 0,.int .u32 0,.int .u32 0,.bool false,.bool false,.bool false,.bool false,.bool false,.bool false,.int .u64 0,.int .u64 0,.int .u64 0,.int .u64 0,.int .u64 0,.int .u64 0,.int .u64 0,.int .u64 0] 29):=⟨_,rfl⟩
 rw[←hW]
 obtain⟨h1,h2,h3,hbel⟩:=heap_three hW
 have hsz:W.heap.size=w.heap.size+3:=by rw[hW];simp
 have HH:=Lib.hid (And.intro h1 (And.intro h2 (And.intro h3 hbel)))
 have HSZ:=Lib.hid hsz
 have HTH:=Lib.hid (there_alloc_new W #[.int .u32 0,.int .u32 0,.int .u32 0,.int .u32 0,.int .u32 0,.int .u32 0,.int .u32 0,.int .u32 0,.int .u32 0,.bool false,.bool false,.bool false,.bool false,.bool false,.bool false,.int .u64 0,.int .u64 0,.int .u64 0,.int .u64 0,.int .u64 0,.int .u64 0,.int .u64 0,.int .u64 0] 29 23 (by decide))
 clear hW h1 h2 h3 hbel hsz
 go_upto_region 2 with(first
  |(refine wpList_load_mid rfl 29 (.tmp 6) rfl w.heap.size 0 rfl (staL s) _ (range_in13 HH.out.1 0 _ rfl) Tryz.underlying29 rfl info_sta ?_)
  |(refine store_row rfl 29 (.tmp 12) (.tmp 19) rfl W.heap.size rfl (staL s) rfl _ Tryz.underlying29 rfl info_sta (sta_one s) HTH.out ?_;intro V hV hl;clear hl))
 have hd0:DI w rb R g cc dd s s ⟨op,cond,n,⟨ak,ar,ab,ai,ac,ad⟩,⟨bk,br,bb,bi,bc,bd⟩,c,rep,len⟩ V:=by
  obtain⟨h1,h2,h3,hbel⟩:=HH.out
  have hb:Below W.heap.size W V:=by rw[hV];exact below_setCells (Nat.le_refl _) _ _ _ (below_last (Below.refl _ _) _)
  have k:∀{j:Nat} {x:Obj},W.heap[j]?=some x→V.heap[j]?=some x:=fun{j x} hj=>(hb.block j (Array.getElem?_eq_some_iff.1 hj).1).trans hj
  have hbv:=hbel.trans (hb.mono hbel.size)
  refine⟨k h1,k h2,⟨_,k h3,rfl⟩,?_,HR.out.below hbv,fun j hj=>HR.out.lt j hj,But.of_below hbv⟩
  have h4:(W.alloc (.cells #[.int .u32 0,.int .u32 0,.int .u32 0,.int .u32 0,.int .u32 0,.int .u32 0,.int .u32 0,.int .u32 0,.int .u32 0,.bool false,.bool false,.bool false,.bool false,.bool false,.bool false,.int .u64 0,.int .u64 0,.int .u64 0,.int .u64 0,.int .u64 0,.int .u64 0,.int .u64 0,.int .u64 0] 29)).heap[W.heap.size]?=some (.cells #[.int .u32 0,.int .u32 0,.int .u32 0,.int .u32 0,.int .u32 0,.int .u32 0,.int .u32 0,.int .u32 0,.int .u32 0,.bool false,.bool false,.bool false,.bool false,.bool false,.bool false,.int .u64 0,.int .u64 0,.int .u64 0,.int .u64 0,.int .u64 0,.int .u64 0,.int .u64 0,.int .u64 0] 29 (0,0)):=by show(W.heap.push _)[W.heap.size]?=_;simp
  have h5:=block_setCells (staL s) 0 _ _ h4
  rw[←hV,HSZ.out,setL_whole s (by rfl)]at h5
  exact h5
 have HD:=Lib.hid hd0
 have k0:V.cell? ⟨w.heap.size+1,0,none⟩=some (.int .i64 op):=HD.out.op
 have k2:V.cell? ⟨w.heap.size+1,2,none⟩=some (.int .i64 n):=HD.out.size
 rw[show W.heap.size=w.heap.size+3 from HSZ.out]
 clear HH HTH hV hd0
 go_upto_block 0 with fail
 go_cut [13,14,15] (fun v13 v14 v15 wx=>∃q:Calc,v13=.int .i64 q.n∧v14=.int .u32 q.v∧v15=.bool q.st∧0≤q.v∧q.v<4294967296∧StaOk q.t∧DI w rb R g cc dd s q.t ⟨op,cond,n,⟨ak,ar,ab,ai,ac,ad⟩,⟨bk,br,bb,bi,bc,bd⟩,c,rep,len⟩ wx∧(finT dd s ⟨op,cond,n,⟨ak,ar,ab,ai,ac,ad⟩,⟨bk,br,bb,bi,bc,bd⟩,c,rep,len⟩ q=FT0∧finE dd s ⟨op,cond,n,⟨ak,ar,ab,ai,ac,ad⟩,⟨bk,br,bb,bi,bc,bd⟩,c,rep,len⟩ q=FE0∧finG g dd s ⟨op,cond,n,⟨ak,ar,ab,ai,ac,ad⟩,⟨bk,br,bb,bi,bc,bd⟩,c,rep,len⟩ q=FG0))
 case first=>
  by_cases h35:op=35
  ·subst h35
   as_aux_lemma=>
   have k0:=HD.out.op
   have HQ:=Lib.hid (fun q hq=>done_fin (I:=⟨35,cond,n,⟨ak,ar,ab,ai,ac,ad⟩,⟨bk,br,bb,bi,bc,bd⟩,c,rep,len⟩) rfl (show ¬(35:Int)=22 by decide) HFT.out HFE.out HFG.out q hq)
   clear HFT HFE HFG
   have k1:=HD.out.cond
   obtain⟨CH,hCH⟩:∃CH,condH cond s.c s.p s.z s.s s.o=CH:=⟨_,rfl⟩
   have HCH:=Lib.hid hCH
   have HH:=Lib.hid (fun u=>rholds_any cond s.c s.p s.z s.s s.o s.d u)
   rw[hCH]at HH
   clear hCH
   go_wp2_with (refine wpList_load_mid rfl 25 (.tmp 164) rfl w.heap.size 9 rfl [.bool s.c,.bool s.p,.bool s.z,.bool s.s,.bool s.o,.bool s.d] _ HD.out.rf Tryz.underlying25 rfl info_fl15 ?_)
   ((with_reducible refine(HH.out _).mono ?_);rintro e w1 ⟨rfl,b1⟩)
   have HD1:=Lib.hid (HD.out.below b1)
   clear b1
   cases CH with
   |false=>
    go_wp2_with fail
    go_meet
    exact⟨⟨s,0,n,true⟩,rfl,rfl,rfl,(by simp),(by simp),HS.out,HD1.out,HQ.out _ (by show(⟨s,if condH cond s.c s.p s.z s.s s.o then 1 else 0,n,true⟩:Calc)=_;rw[HCH.out];rfl)⟩
   |true=>
    go_wp2_with fail
    go_meet
    exact⟨⟨s,1,n,true⟩,rfl,rfl,rfl,(by simp),(by simp),HS.out,HD1.out,HQ.out _ (by show(⟨s,if condH cond s.c s.p s.z s.s s.o then 1 else 0,n,true⟩:Calc)=_;rw[HCH.out];rfl)⟩
  by_cases h36:op=36
  ·subst h36
   as_aux_lemma=>
   have k0:=HD.out.op
   have HQ:=Lib.hid (fun q hq=>done_fin (I:=⟨36,cond,n,⟨ak,ar,ab,ai,ac,ad⟩,⟨bk,br,bb,bi,bc,bd⟩,c,rep,len⟩) rfl (show ¬(36:Int)=22 by decide) HFT.out HFE.out HFG.out q hq)
   clear HFT HFE HFG
   have k1:=HD.out.cond
   obtain⟨CH,hCH⟩:∃CH,condH cond s.c s.p s.z s.s s.o=CH:=⟨_,rfl⟩
   have HCH:=Lib.hid hCH
   have HH:=Lib.hid (fun u=>rholds_any cond s.c s.p s.z s.s s.o s.d u)
   rw[hCH]at HH
   clear hCH
   go_wp2_with (refine wpList_load_mid rfl 25 (.tmp 172) rfl w.heap.size 9 rfl [.bool s.c,.bool s.p,.bool s.z,.bool s.s,.bool s.o,.bool s.d] _ HD.out.rf Tryz.underlying25 rfl info_fl15 ?_)
   ((with_reducible refine(HH.out _).mono ?_);rintro e w1 ⟨rfl,b1⟩)
   have HD1:=Lib.hid (HD.out.below b1)
   clear b1
   go_wp2_with fail
   go_meet
   exact⟨⟨s,y,n,CH⟩,rfl,rfl,rfl,y0,y1,HS.out,HD1.out,HQ.out _ (by show(⟨s,y,n,condH cond s.c s.p s.z s.s s.o⟩:Calc)=_;rw[HCH.out])⟩
  by_cases h25:op=25
  ·subst h25
   as_aux_lemma=>
   have k0:=HD.out.op
   have HQ:=Lib.hid (fun q hq=>done_fin (I:=⟨25,cond,n,⟨ak,ar,ab,ai,ac,ad⟩,⟨bk,br,bb,bi,bc,bd⟩,c,rep,len⟩) rfl (show ¬(25:Int)=22 by decide) HFT.out HFE.out HFG.out q hq)
   clear HFT HFE HFG
   have k1:=HD.out.cond
   obtain⟨GA,hGA⟩:∃GA,getF s ⟨ak,ar,ab,ai,ac,ad⟩=GA:=⟨_,rfl⟩
   have HGA:=Lib.hid hGA
   have HGE:=Lib.hid (fun u=>rget_any s ⟨ak,ar,ab,ai,ac,ad⟩ HS.out A0 A1 u)
   rw[hGA,show staV s=.agg (staL s).toArray from rfl,show opV (⟨ak,ar,ab,ai,ac,ad⟩:Opd)=.agg (opL' ⟨ak,ar,ab,ai,ac,ad⟩).toArray from rfl]at HGE
   have hw:=IntKind.wrap_u32' GA
   clear hGA
   go_wp2_with (first
    |(refine wpList_load_mid rfl 29 (.tmp 6) rfl w.heap.size 0 rfl (staL s) _ HD.out.rs Tryz.underlying29 rfl info_sta ?_)
    |(refine wpList_load_mid rfl 32 (.tmp 178) rfl (w.heap.size+1) 3 rfl (opL' ⟨ak,ar,ab,ai,ac,ad⟩) _ HD.out.ra Tryz.underlying32 rfl info_opd1 ?_))
   ((with_reducible refine(HGE.out _).mono ?_);rintro e w1 ⟨rfl,b1⟩)
   have HD1:=Lib.hid (HD.out.below b1)
   clear b1
   have k1:=HD1.out.cond
   by_cases hc1:cond=1
   ·subst hc1
    have k15:=HD1.out.c
    go_upto_region 47 with fail
    go_quiet (fail)
    have HD1:=Lib.hid (show DI w rb R g cc dd s s ⟨25,1,n,⟨ak,ar,ab,ai,ac,ad⟩,⟨bk,br,bb,bi,bc,bd⟩,c,rep,len⟩ (w1.drewN nq)from HD1.out.below (below_dr (Below.refl _ _) _))
    clear k1 k15 k0 k2
    generalize w1.drewN nq=w1 at *
    go_wp2_with (refine wpList_load_mid rfl 25 (.tmp 190) rfl w.heap.size 9 rfl [.bool s.c,.bool s.p,.bool s.z,.bool s.s,.bool s.o,.bool s.d] _ HD1.out.rf Tryz.underlying25 rfl info_fl15 ?_)
    ((with_reducible refine(rimul_any s.c s.p s.z s.s s.o s.d y c _).mono ?_);rintro e w2 ⟨rfl,b2⟩)
    have HD1:=Lib.hid (HD1.out.below b2)
    clear b2
    go_wp2_with (refine store_named rfl 25 (.tmp 198) (.tmp 197) rfl (w.heap.size+3) 9 (flL (imulC y c) s.p s.z s.s (imulC y c) s.d) rfl rfl (HD1.out.has 9 6 (by decide)) info_fl15 (flL_one _ _ _ _ _ _) ?_;intro V hV;have HD2:=Lib.hid (HD1.out.cells hV (setL_fl15 s _ _ _ _ _ _));clear hV)
    go_meet
    exact⟨timesQ s y c n,rfl,rfl,rfl,(by show 0≤imulL y c;unfold imulL;omega),(by show imulL y c<4294967296;unfold imulL;omega),fl_ok HS.out _ _ _ _ _ _,HD2.out,HQ.out _ (by rfl)⟩
   ·have ec1:(cond==1)=false:=by simpa using hc1
    have HC1:=Lib.hid hc1
    clear hc1
    go_wp2_with (refine wpList_load_mid rfl 25 (.tmp 190) rfl w.heap.size 9 rfl [.bool s.c,.bool s.p,.bool s.z,.bool s.s,.bool s.o,.bool s.d] _ HD1.out.rf Tryz.underlying25 rfl info_fl15 ?_)
    ((with_reducible refine(rimul_any s.c s.p s.z s.s s.o s.d (GA%4294967296) y _).mono ?_);rintro e w2 ⟨rfl,b2⟩)
    have HD1:=Lib.hid (HD1.out.below b2)
    clear b2
    go_wp2_with (refine store_named rfl 25 (.tmp 198) (.tmp 197) rfl (w.heap.size+3) 9 (flL (imulC (GA%4294967296) y) s.p s.z s.s (imulC (GA%4294967296) y) s.d) rfl rfl (HD1.out.has 9 6 (by decide)) info_fl15 (flL_one _ _ _ _ _ _) ?_;intro V hV;have HD2:=Lib.hid (HD1.out.cells hV (setL_fl15 s _ _ _ _ _ _));clear hV)
    go_meet
    exact⟨timesQ s (GA%4294967296) y n,rfl,rfl,rfl,(by show 0≤imulL (GA%4294967296) y;unfold imulL;omega),(by show imulL (GA%4294967296) y<4294967296;unfold imulL;omega),fl_ok HS.out _ _ _ _ _ _,HD2.out,HQ.out _ (by show(if cond=1 then timesQ s y c n else timesQ s (getF s ⟨ak,ar,ab,ai,ac,ad⟩%4294967296) y n)=_;rw[if_neg HC1.out,HGA.out])⟩
  by_cases h26:op=26
  ·subst h26
   as_aux_lemma=>
   have k0:=HD.out.op
   have HQ:=Lib.hid (fun q hq=>done_fin (I:=⟨26,cond,n,⟨ak,ar,ab,ai,ac,ad⟩,⟨bk,br,bb,bi,bc,bd⟩,c,rep,len⟩) rfl (show ¬(26:Int)=22 by decide) HFT.out HFE.out HFG.out q hq)
   clear HFT HFE HFG
   go_wp2_with (refine wpList_load_mid rfl 25 (.tmp 208) rfl w.heap.size 9 rfl [.bool s.c,.bool s.p,.bool s.z,.bool s.s,.bool s.o,.bool s.d] _ HD.out.rf Tryz.underlying25 rfl info_fl15 ?_)
   ((with_reducible refine(rshift_any 26 s.c s.p s.z s.s s.o s.d x y x0 x1 y0 y1 _).mono ?_);rintro e w1 ⟨rfl,b1⟩)
   have HD1:=Lib.hid (HD.out.below b1)
   clear b1
   go_wp2_with (refine store_named rfl 25 (.tmp 215) (.tmp 214) rfl (w.heap.size+3) 9 (flL (sfC 26 x (y%32).toNat s.c) (sfP 26 x (y%32).toNat s.p) (sfZ 26 x (y%32).toNat s.z) (sfS 26 x (y%32).toNat s.s) (sfO 26 x (y%32).toNat s.o) s.d) rfl rfl (HD1.out.has 9 6 (by decide)) info_fl15 (flL_one _ _ _ _ _ _) ?_;intro V hV;have HD2:=Lib.hid (HD1.out.cells hV (setL_fl15 s _ _ _ _ _ _));clear hV)
   go_meet
   exact⟨shiftQ s 26 x y n,rfl,rfl,rfl,(show 0≤shV 26 x (y%32).toNat from shV_lo _ _ _ x0),(show shV 26 x (y%32).toNat<4294967296 from shV_hi _ _ _ (by omega) x0 x1),fl_ok HS.out _ _ _ _ _ _,HD2.out,HQ.out _ (by rfl)⟩
  by_cases h27:op=27
  ·subst h27
   as_aux_lemma=>
   have k0:=HD.out.op
   have HQ:=Lib.hid (fun q hq=>done_fin (I:=⟨27,cond,n,⟨ak,ar,ab,ai,ac,ad⟩,⟨bk,br,bb,bi,bc,bd⟩,c,rep,len⟩) rfl (show ¬(27:Int)=22 by decide) HFT.out HFE.out HFG.out q hq)
   clear HFT HFE HFG
   go_wp2_with (refine wpList_load_mid rfl 25 (.tmp 208) rfl w.heap.size 9 rfl [.bool s.c,.bool s.p,.bool s.z,.bool s.s,.bool s.o,.bool s.d] _ HD.out.rf Tryz.underlying25 rfl info_fl15 ?_)
   ((with_reducible refine(rshift_any 27 s.c s.p s.z s.s s.o s.d x y x0 x1 y0 y1 _).mono ?_);rintro e w1 ⟨rfl,b1⟩)
   have HD1:=Lib.hid (HD.out.below b1)
   clear b1
   go_wp2_with (refine store_named rfl 25 (.tmp 215) (.tmp 214) rfl (w.heap.size+3) 9 (flL (sfC 27 x (y%32).toNat s.c) (sfP 27 x (y%32).toNat s.p) (sfZ 27 x (y%32).toNat s.z) (sfS 27 x (y%32).toNat s.s) (sfO 27 x (y%32).toNat s.o) s.d) rfl rfl (HD1.out.has 9 6 (by decide)) info_fl15 (flL_one _ _ _ _ _ _) ?_;intro V hV;have HD2:=Lib.hid (HD1.out.cells hV (setL_fl15 s _ _ _ _ _ _));clear hV)
   go_meet
   exact⟨shiftQ s 27 x y n,rfl,rfl,rfl,(show 0≤shV 27 x (y%32).toNat from shV_lo _ _ _ x0),(show shV 27 x (y%32).toNat<4294967296 from shV_hi _ _ _ (by omega) x0 x1),fl_ok HS.out _ _ _ _ _ _,HD2.out,HQ.out _ (by rfl)⟩
  by_cases h28:op=28
  ·subst h28
   as_aux_lemma=>
   have k0:=HD.out.op
   have HQ:=Lib.hid (fun q hq=>done_fin (I:=⟨28,cond,n,⟨ak,ar,ab,ai,ac,ad⟩,⟨bk,br,bb,bi,bc,bd⟩,c,rep,len⟩) rfl (show ¬(28:Int)=22 by decide) HFT.out HFE.out HFG.out q hq)
   clear HFT HFE HFG
   go_wp2_with (refine wpList_load_mid rfl 25 (.tmp 208) rfl w.heap.size 9 rfl [.bool s.c,.bool s.p,.bool s.z,.bool s.s,.bool s.o,.bool s.d] _ HD.out.rf Tryz.underlying25 rfl info_fl15 ?_)
   ((with_reducible refine(rshift_any 28 s.c s.p s.z s.s s.o s.d x y x0 x1 y0 y1 _).mono ?_);rintro e w1 ⟨rfl,b1⟩)
   have HD1:=Lib.hid (HD.out.below b1)
   clear b1
   go_wp2_with (refine store_named rfl 25 (.tmp 215) (.tmp 214) rfl (w.heap.size+3) 9 (flL (sfC 28 x (y%32).toNat s.c) (sfP 28 x (y%32).toNat s.p) (sfZ 28 x (y%32).toNat s.z) (sfS 28 x (y%32).toNat s.s) (sfO 28 x (y%32).toNat s.o) s.d) rfl rfl (HD1.out.has 9 6 (by decide)) info_fl15 (flL_one _ _ _ _ _ _) ?_;intro V hV;have HD2:=Lib.hid (HD1.out.cells hV (setL_fl15 s _ _ _ _ _ _));clear hV)
   go_meet
   exact⟨shiftQ s 28 x y n,rfl,rfl,rfl,(show 0≤shV 28 x (y%32).toNat from shV_lo _ _ _ x0),(show shV 28 x (y%32).toNat<4294967296 from shV_hi _ _ _ (by omega) x0 x1),fl_ok HS.out _ _ _ _ _ _,HD2.out,HQ.out _ (by rfl)⟩
  by_cases h29:op=29
  ·subst h29
   as_aux_lemma=>
   have k0:=HD.out.op
   have HQ:=Lib.hid (fun q hq=>done_fin (I:=⟨29,cond,n,⟨ak,ar,ab,ai,ac,ad⟩,⟨bk,br,bb,bi,bc,bd⟩,c,rep,len⟩) rfl (show ¬(29:Int)=22 by decide) HFT.out HFE.out HFG.out q hq)
   clear HFT HFE HFG
   go_wp2_with (refine wpList_load_mid rfl 25 (.tmp 208) rfl w.heap.size 9 rfl [.bool s.c,.bool s.p,.bool s.z,.bool s.s,.bool s.o,.bool s.d] _ HD.out.rf Tryz.underlying25 rfl info_fl15 ?_)
   ((with_reducible refine(rshift_any 29 s.c s.p s.z s.s s.o s.d x y x0 x1 y0 y1 _).mono ?_);rintro e w1 ⟨rfl,b1⟩)
   have HD1:=Lib.hid (HD.out.below b1)
   clear b1
   go_wp2_with (refine store_named rfl 25 (.tmp 215) (.tmp 214) rfl (w.heap.size+3) 9 (flL (sfC 29 x (y%32).toNat s.c) (sfP 29 x (y%32).toNat s.p) (sfZ 29 x (y%32).toNat s.z) (sfS 29 x (y%32).toNat s.s) (sfO 29 x (y%32).toNat s.o) s.d) rfl rfl (HD1.out.has 9 6 (by decide)) info_fl15 (flL_one _ _ _ _ _ _) ?_;intro V hV;have HD2:=Lib.hid (HD1.out.cells hV (setL_fl15 s _ _ _ _ _ _));clear hV)
   go_meet
   exact⟨shiftQ s 29 x y n,rfl,rfl,rfl,(show 0≤shV 29 x (y%32).toNat from shV_lo _ _ _ x0),(show shV 29 x (y%32).toNat<4294967296 from shV_hi _ _ _ (by omega) x0 x1),fl_ok HS.out _ _ _ _ _ _,HD2.out,HQ.out _ (by rfl)⟩
  by_cases h30:op=30
  ·subst h30
   as_aux_lemma=>
   have k0:=HD.out.op
   have HQ:=Lib.hid (fun q hq=>done_fin (I:=⟨30,cond,n,⟨ak,ar,ab,ai,ac,ad⟩,⟨bk,br,bb,bi,bc,bd⟩,c,rep,len⟩) rfl (show ¬(30:Int)=22 by decide) HFT.out HFE.out HFG.out q hq)
   clear HFT HFE HFG
   go_wp2_with (refine wpList_load_mid rfl 25 (.tmp 208) rfl w.heap.size 9 rfl [.bool s.c,.bool s.p,.bool s.z,.bool s.s,.bool s.o,.bool s.d] _ HD.out.rf Tryz.underlying25 rfl info_fl15 ?_)
   ((with_reducible refine(rshift_any 30 s.c s.p s.z s.s s.o s.d x y x0 x1 y0 y1 _).mono ?_);rintro e w1 ⟨rfl,b1⟩)
   have HD1:=Lib.hid (HD.out.below b1)
   clear b1
   go_wp2_with (refine store_named rfl 25 (.tmp 215) (.tmp 214) rfl (w.heap.size+3) 9 (flL (sfC 30 x (y%32).toNat s.c) (sfP 30 x (y%32).toNat s.p) (sfZ 30 x (y%32).toNat s.z) (sfS 30 x (y%32).toNat s.s) (sfO 30 x (y%32).toNat s.o) s.d) rfl rfl (HD1.out.has 9 6 (by decide)) info_fl15 (flL_one _ _ _ _ _ _) ?_;intro V hV;have HD2:=Lib.hid (HD1.out.cells hV (setL_fl15 s _ _ _ _ _ _));clear hV)
   go_meet
   exact⟨shiftQ s 30 x y n,rfl,rfl,rfl,(show 0≤shV 30 x (y%32).toNat from shV_lo _ _ _ x0),(show shV 30 x (y%32).toNat<4294967296 from shV_hi _ _ _ (by omega) x0 x1),fl_ok HS.out _ _ _ _ _ _,HD2.out,HQ.out _ (by rfl)⟩
  exact absurd HOP.out (by simp[h35,h36,h25,h26,h27,h28,h29,h30])
 case rest=>
  obtain⟨⟨t,v,m,st⟩,rfl,rfl,rfl,v0,v1,tok,hd,hT,hE,hG⟩:=hcut
  have v0:0≤v:=v0
  have v1:v<4294967296:=v1
  have HD:=Lib.hid (show DI w rb R g cc dd s t ⟨op,cond,n,⟨ak,ar,ab,ai,ac,ad⟩,⟨bk,br,bb,bi,bc,bd⟩,c,rep,len⟩ _ from hd)
  clear hd
  cases st with
  |false=>
   have HT:=Lib.hid (show t=FT0 from hT)
   have HE:=Lib.hid (show(0:Int)=FE0 from hE)
   have HG:=Lib.hid (show g=FG0 from hG)
   clear hT hE hG
   go_wp2_with (first
    |(refine wpList_load_mid rfl 29 (.tmp 12) rfl (w.heap.size+3) 0 rfl (staL t) _ HD.out.rt Tryz.underlying29 rfl info_sta ?_)
    |(refine store_row rfl 29 (.tmp 10) (.tmp 274) rfl (w.heap.size+2) rfl (staL t) rfl _ Tryz.underlying29 rfl info_sta (sta_one t) HD.out.hasr ?_;intro Y hY hl;have HL:=Lib.hid hl;have HY:=Lib.hid (HD.out.res hY);clear hY hl))
   exact bodyPost_ret (results_cell_tmp rfl rfl rfl HL.out) rfl ⟨by rw[←HT.out,←HE.out];rfl,by rw[←HG.out];exact HY.out.bus,HY.out.but⟩
  |true=>
   have HPU:=Lib.hid (fun u hu=>rput13_any rb R g cc dd s t ⟨ak,ar,ab,ai,ac,ad⟩ m v HS.out tok A0 A1 v0 (by omega) u hu)
   obtain⟨PO,hPO⟩:∃z,putO dd s ⟨ak,ar,ab,ai,ac,ad⟩ m=z:=⟨_,rfl⟩
   obtain⟨PT,hPT⟩:∃z,putS t ⟨ak,ar,ab,ai,ac,ad⟩ v=z:=⟨_,rfl⟩
   obtain⟨PG',hPG⟩:∃z,putG g dd s ⟨ak,ar,ab,ai,ac,ad⟩ m v=z:=⟨_,rfl⟩
   have HT:=Lib.hid (show(if PO then PT else s)=FT0 by rw[←hPO,←hPT];exact hT)
   have HE:=Lib.hid (show(if PO then 0 else 2)=FE0 by rw[←hPO];exact hE)
   have HG:=Lib.hid (show PG'=FG0 by rw[←hPG];exact hG)
   rw[hPO,hPT,hPG,show staV s=.agg (staL s).toArray from rfl,show staV t=.agg (staL t).toArray from rfl,show opV (⟨ak,ar,ab,ai,ac,ad⟩:Opd)=.agg (opL' ⟨ak,ar,ab,ai,ac,ad⟩).toArray from rfl,show staV PT=.agg (staL PT).toArray from rfl]at HPU
   clear hT hE hG hPO hPT hPG
   go_wp2_with (first
    |(refine wpList_load_mid rfl 29 (.tmp 6) rfl w.heap.size 0 rfl (staL s) _ HD.out.rs Tryz.underlying29 rfl info_sta ?_)
    |(refine wpList_load_mid rfl 29 (.tmp 12) rfl (w.heap.size+3) 0 rfl (staL t) _ HD.out.rt Tryz.underlying29 rfl info_sta ?_)
    |(refine wpList_load_mid rfl 32 (.tmp 279) rfl (w.heap.size+1) 3 rfl (opL' ⟨ak,ar,ab,ai,ac,ad⟩) _ HD.out.ra Tryz.underlying32 rfl info_opd1 ?_))
   ((with_reducible refine(HPU.out _ HD.out.bus).mono ?_);rintro e w1 ⟨rfl,r1,b1⟩)
   have HD1:=Lib.hid (HD.out.wrote r1 b1)
   clear r1 b1
   cases PO with
   |true=>
    have HT:=Lib.hid (show PT=FT0 from HT.out)
    go_wp2_with (first
     |(refine store_named rfl 29 (.tmp 12) (.tmp 285) rfl (w.heap.size+3) 0 (staL PT) rfl rfl (HD1.out.has 0 23 (by decide)) info_sta (sta_one PT) ?_;intro V2 hV;have HD2:=Lib.hid (HD1.out.cells hV (setL_whole23 PT t));clear hV)
     |(refine wpList_load_mid rfl 29 (.tmp 12) rfl (w.heap.size+3) 0 rfl (staL PT) _ HD2.out.rt Tryz.underlying29 rfl info_sta ?_)
     |(refine store_row rfl 29 (.tmp 10) (.tmp 290) rfl (w.heap.size+2) rfl (staL PT) rfl _ Tryz.underlying29 rfl info_sta (sta_one PT) HD2.out.hasr ?_;intro Y hY hl;have HL:=Lib.hid hl;have HY:=Lib.hid (HD2.out.res hY);clear hY hl))
    exact bodyPost_ret (results_cell_tmp rfl rfl rfl HL.out) rfl ⟨by rw[←HT.out,←HE.out];rfl,by rw[←HG.out];exact HY.out.bus,HY.out.but⟩
   |false=>
    have HT:=Lib.hid (show s=FT0 from HT.out)
    go_wp2_with (first
     |(refine store_named rfl 29 (.tmp 12) (.tmp 285) rfl (w.heap.size+3) 0 (staL PT) rfl rfl (HD1.out.has 0 23 (by decide)) info_sta (sta_one PT) ?_;intro V2 hV;have HD2:=Lib.hid (HD1.out.cells hV (setL_whole23 PT t));clear hV)
     |(refine wpList_load_mid rfl 29 (.tmp 6) rfl w.heap.size 0 rfl (staL s) _ HD2.out.rs Tryz.underlying29 rfl info_sta ?_)
     |(refine store_row rfl 29 (.tmp 10) (.tmp 289) rfl (w.heap.size+2) rfl (staL s) rfl _ Tryz.underlying29 rfl info_sta (sta_one s) HD2.out.hasr ?_;intro Y hY hl;have HL:=Lib.hid hl;have HY:=Lib.hid (HD2.out.res hY);clear hY hl))
    exact bodyPost_ret (results_cell_tmp rfl rfl rfl HL.out) rfl ⟨by rw[←HT.out,←HE.out];rfl,by rw[←HG.out];exact HY.out.bus,HY.out.but⟩
end
end Go.Proofs.YtmdncgfheeijaaaGreat
