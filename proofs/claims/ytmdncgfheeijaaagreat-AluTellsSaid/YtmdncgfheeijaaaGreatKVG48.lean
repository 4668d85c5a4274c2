import Derived.Test.YtmdncgfheeijaaaGreatKVG10
import Derived.Test.YtmdncgfheeijaaaGreatKVG51
namespace Go.Proofs.YtmdncgfheeijaaaGreat
open Go.ChangeShapes Go.WideShapes Go.ChangeAt Go.RowKit
section
attribute [local go_sem] signed_u32 max_u32
set_option maxRecDepth 100000
set_option maxHeartbeats 40000000
theorem rdone_d(rb:Nat)(R:Nat→Prop)(g:Int→Int)(cc dd:Sg)(s:Sta)(I:Ins)(x y:Int)(hs:StaOk s)(hA:0≤I.a.disp∧I.a.disp<4294967296)(hB:0≤I.b.disp∧I.b.disp<4294967296)(hc:0≤I.c∧I.c<4294967296)(x0:0≤x)(x1:x<4294967296)(y0:0≤y)(y1:y<4294967296)(w:World)(hR:RBus w rb R g cc dd)(hop:I.op ∉ ([1,3,6,8,4,5,9,2,7,10,11,16,17,18,19,20,35,36,25,26,27,28,29,30]:List Int)):
  Calls Tryz.prog 82 #[.pointer (some ⟨rb,0,none⟩),staV s,insV I,.int .u32 x,.int .u32 y] w fun e w'=>e=.returned (.tuple #[staV (doneT dd s I x y),.int .i64 (doneE dd s I x y)])∧RBus w' rb R (doneG g dd s I x y) cc dd∧But R w w':=by
 have HS:=Lib.hid hs
 have HR:=Lib.hid hR
 have HOP:=Lib.hid hop
 clear hop
 obtain⟨op,cond,n,⟨ak,ar,ab,ai,ac,ad⟩,⟨bk,br,bb,bi,bc,bd⟩,c,rep,len⟩:=I
 obtain⟨FT0,hFT⟩:∃z,doneT dd s ⟨op,cond,n,⟨ak,ar,ab,ai,ac,ad⟩,⟨bk,br,bb,bi,bc,bd⟩,c,rep,len⟩ x y=z:=⟨_,rfl⟩
 obtain⟨FE0,hFE⟩:∃z,doneE dd s ⟨op,cond,n,⟨ak,ar,ab,ai,ac,ad⟩,⟨bk,br,bb,bi,bc,bd⟩,c,rep,len⟩ x y=z:=⟨_,rfl⟩
 obtain⟨FG0,hFG⟩:∃z,doneG g dd s ⟨op,cond,n,⟨ak,ar,ab,ai,ac,ad⟩,⟨bk,br,bb,bi,bc,bd⟩,c,rep,len⟩ x y=z:=⟨_,rfl⟩
 have HFT:=Lib.hid hFT
 have HFE:=Lib.hid hFE
 have HFG:=Lib.hid hFG
 have A0:=hA.1
 have A1:=hA.2
 have B0:=hB.1
 have B1:=hB.2
 dsimp only at A0 A1 B0 B1
 rw[hFT,hFE,hFG]
 clear hs hR hA hB hc hFT hFE hFG
 unfold staV insV insC
 go_enter Tryz.func82,Tryz.ntmps82
 go_upto_region 1 with fail
 obtain⟨W,hW⟩:∃W,W=((w.alloc (.cells (staL s).toArray 29)).alloc (.cells #[.int .i64 op,.int .i64 cond,.int .i64 n,.int .i64 ak,.int .i64 ar,.int .i64 ab,.int .i64 ai,.int .i64 ac,.int .u32 ad,.int .i64 bk,.int .i64 br,.int .i64 bb,.int .i64 bi,.int .i64 bc,.int .u32 bd,.int .u32 c,.bool rep,.int .i64 len] 34)).alloc (.cells #[.int .u32 0,.int .u32 0,.int .u32 0,.int .u32 0,.int .u32 0,.int .u32 0,.int .u32 0,.int .u32 0,.int .u32 0,.bool false,.bool false,.bool false,.bool false,.bool false,.bool false,.int .u64 0,.int .u64 0,.int .u64 0,.int .u64 0,.int .u64 0,.int .u64 0,.int .u64 0,.int .u64 0] 29):=⟨_,rfl⟩
 rw[←hW]
 obtain⟨h1,h2,h3,hbel⟩:=heap_three hW
 have hsz:W.heap.size=w.heap.size+3:=by rw[hW];simp
 have HH:=Lib.hid (And.intro h1 (And.intro h2 (And.intro h3 hbel)))
 have HSZ:=Lib.hid hsz
 have HTH:=Lib.hid (there_alloc_new W #[.int .u32 0,.int .u32 0,.int .u32 0,.int .u32 0,.int .u32 0,.int .u32 0,.int .u32 0,.int .u32 0,.int .u32 0,.bool false,.bool false,.bool false,.bool false,.bool false,.bool false,.int .u64 0,.int .u64 0,.int .u64 0,.int .u64 0,.int .u64 0,.int .u64 0,.int .u64 0,.int .u64 0] 29 23 (by decide))
 clear hW h1 h2 h3 hbel hsz
 go_upto_region 2 with(first
  |(refine wpList_load_mid rfl 29 (.tmp 6) rfl w.heap.size 0 rfl (staL s) _ (range_in13 HH.out.1 0 _ rfl) Tryz.underlying29 rfl info_sta ?_)
  |(refine store_row rfl 29 (.tmp 12) (.tmp 19) rfl W.heap.size rfl (staL s) rfl _ Tryz.underlying29 rfl info_sta (sta_one s) HTH.out ?_;intro V hV hl;clear hl))
 have hd0:DI w rb R g cc dd s s ⟨op,cond,n,⟨ak,ar,ab,ai,ac,ad⟩,⟨bk,br,bb,bi,bc,bd⟩,c,rep,len⟩ V:=by
  obtain⟨h1,h2,h3,hbel⟩:=HH.out
  have hb:Below W.heap.size W V:=by rw[hV];exact below_setCells (Nat.le_refl _) _ _ _ (below_last (Below.refl _ _) _)
  have k:∀{j:Nat} {x:Obj},W.heap[j]?=some x→V.heap[j]?=some x:=fun{j x} hj=>(hb.block j (Array.getElem?_eq_some_iff.1 hj).1).trans hj
  have hbv:=hbel.trans (hb.mono hbel.size)
  refine⟨k h1,k h2,⟨_,k h3,rfl⟩,?_,HR.out.below hbv,fun j hj=>HR.out.lt j hj,But.of_below hbv⟩
  have h4:(W.alloc (.cells #[.int .u32 0,.int .u32 0,.int .u32 0,.int .u32 0,.int .u32 0,.int .u32 0,.int .u32 0,.int .u32 0,.int .u32 0,.bool false,.bool false,.bool false,.bool false,.bool false,.bool false,.int .u64 0,.int .u64 0,.int .u64 0,.int .u64 0,.int .u64 0,.int .u64 0,.int .u64 0,.int .u64 0] 29)).heap[W.heap.size]?=some (.cells #[.int .u32 0,.int .u32 0,.int .u32 0,.int .u32 0,.int .u32 0,.int .u32 0,.int .u32 0,.int .u32 0,.int .u32 0,.bool false,.bool false,.bool false,.bool false,.bool false,.bool false,.int .u64 0,.int .u64 0,.int .u64 0,.int .u64 0,.int .u64 0,.int .u64 0,.int .u64 0,.int .u64 0] 29 (0,0)):=by show(W.heap.push _)[W.heap.size]?=_;simp
  have h5:=block_setCells (staL s) 0 _ _ h4
  rw[←hV,HSZ.out,setL_whole s (by rfl)]at h5
  exact h5
 have HD:=Lib.hid hd0
 have k0:V.cell? ⟨w.heap.size+1,0,none⟩=some (.int .i64 op):=HD.out.op
 have k2:V.cell? ⟨w.heap.size+1,2,none⟩=some (.int .i64 n):=HD.out.size
 rw[show W.heap.size=w.heap.size+3 from HSZ.out]
 clear HH HTH hV hd0
 go_upto_block 0 with fail
 go_cut [13,14,15] (fun v13 v14 v15 wx=>∃q:Calc,v13=.int .i64 q.n∧v14=.int .u32 q.v∧v15=.bool q.st∧0≤q.v∧q.v<4294967296∧StaOk q.t∧DI w rb R g cc dd s q.t ⟨op,cond,n,⟨ak,ar,ab,ai,ac,ad⟩,⟨bk,br,bb,bi,bc,bd⟩,c,rep,len⟩ wx∧(finT dd s ⟨op,cond,n,⟨ak,ar,ab,ai,ac,ad⟩,⟨bk,br,bb,bi,bc,bd⟩,c,rep,len⟩ q=FT0∧finE dd s ⟨op,cond,n,⟨ak,ar,ab,ai,ac,ad⟩,⟨bk,br,bb,bi,bc,bd⟩,c,rep,len⟩ q=FE0∧finG g dd s ⟨op,cond,n,⟨ak,ar,ab,ai,ac,ad⟩,⟨bk,br,bb,bi,bc,bd⟩,c,rep,len⟩ q=FG0))
 case first=>
  by_cases h12:op=12
  ·subst h12
   as_aux_lemma=>
   have k0:=HD.out.op
   have HWI:=Lib.hid (fun u=>rwide_any s 12 x HS.out x0 x1 u)
   rw[show staV s=.agg (staL s).toArray from rfl]at HWI
   obtain⟨RT,hRT⟩:∃RT,(if wideO s 12 x then wideT s 12 x else s)=RT:=⟨_,rfl⟩
   obtain⟨RE,hRE⟩:∃RE:Int,(if wideO s 12 x then 0 else 3)=RE:=⟨_,rfl⟩
   rw[show(if wideO s 12 x then staV (wideT s 12 x)else .agg (staL s).toArray)=.agg (staL RT).toArray by rw[←hRT];split<;>rfl,hRE]at HWI
   have HF1:=Lib.hid (show FT0=RT from HFT.out.symm.trans hRT)
   have HF2:=Lib.hid (show FE0=RE from HFE.out.symm.trans hRE)
   have HF3:=Lib.hid (show FG0=g from HFG.out.symm)
   clear hRT hRE
   go_wp2_with (refine wpList_load_mid rfl 29 (.tmp 12) rfl (w.heap.size+3) 0 rfl (staL s) _ HD.out.rt Tryz.underlying29 rfl info_sta ?_)
   ((with_reducible refine(HWI.out _).mono ?_);rintro e w1 ⟨rfl,b1⟩)
   have HD1:=Lib.hid (HD.out.below b1)
   clear b1
   go_wp2_with (refine store_row rfl 29 (.tmp 10) (.tmp 226) rfl (w.heap.size+2) rfl (staL RT) rfl _ Tryz.underlying29 rfl info_sta (sta_one RT) HD1.out.hasr ?_;intro Y hY hl;have HL:=Lib.hid hl;have HY:=Lib.hid (HD1.out.res hY);clear hY hl)
   exact bodyPost_ret (results_cell_tmp rfl rfl rfl HL.out) rfl ⟨by rw[HF1.out,HF2.out];rfl,by rw[HF3.out];exact HY.out.bus,HY.out.but⟩
  by_cases h13:op=13
  ·subst h13
   as_aux_lemma=>
   have k0:=HD.out.op
   have HWI:=Lib.hid (fun u=>rwide_any s 13 x HS.out x0 x1 u)
   rw[show staV s=.agg (staL s).toArray from rfl]at HWI
   obtain⟨RT,hRT⟩:∃RT,(if wideO s 13 x then wideT s 13 x else s)=RT:=⟨_,rfl⟩
   obtain⟨RE,hRE⟩:∃RE:Int,(if wideO s 13 x then 0 else 3)=RE:=⟨_,rfl⟩
   rw[show(if wideO s 13 x then staV (wideT s 13 x)else .agg (staL s).toArray)=.agg (staL RT).toArray by rw[←hRT];split<;>rfl,hRE]at HWI
   have HF1:=Lib.hid (show FT0=RT from HFT.out.symm.trans hRT)
   have HF2:=Lib.hid (show FE0=RE from HFE.out.symm.trans hRE)
   have HF3:=Lib.hid (show FG0=g from HFG.out.symm)
   clear hRT hRE
   go_wp2_with (refine wpList_load_mid rfl 29 (.tmp 12) rfl (w.heap.size+3) 0 rfl (staL s) _ HD.out.rt Tryz.underlying29 rfl info_sta ?_)
   ((with_reducible refine(HWI.out _).mono ?_);rintro e w1 ⟨rfl,b1⟩)
   have HD1:=Lib.hid (HD.out.below b1)
   clear b1
   go_wp2_with (refine store_row rfl 29 (.tmp 10) (.tmp 226) rfl (w.heap.size+2) rfl (staL RT) rfl _ Tryz.underlying29 rfl info_sta (sta_one RT) HD1.out.hasr ?_;intro Y hY hl;have HL:=Lib.hid hl;have HY:=Lib.hid (HD1.out.res hY);clear hY hl)
   exact bodyPost_ret (results_cell_tmp rfl rfl rfl HL.out) rfl ⟨by rw[HF1.out,HF2.out];rfl,by rw[HF3.out];exact HY.out.bus,HY.out.but⟩
  by_cases h14:op=14
  ·subst h14
   as_aux_lemma=>
   have k0:=HD.out.op
   have HWI:=Lib.hid (fun u=>rwide_any s 14 x HS.out x0 x1 u)
   rw[show staV s=.agg (staL s).toArray from rfl]at HWI
   obtain⟨RT,hRT⟩:∃RT,(if wideO s 14 x then wideT s 14 x else s)=RT:=⟨_,rfl⟩
   obtain⟨RE,hRE⟩:∃RE:Int,(if wideO s 14 x then 0 else 3)=RE:=⟨_,rfl⟩
   rw[show(if wideO s 14 x then staV (wideT s 14 x)else .agg (staL s).toArray)=.agg (staL RT).toArray by rw[←hRT];split<;>rfl,hRE]at HWI
   have HF1:=Lib.hid (show FT0=RT from HFT.out.symm.trans hRT)
   have HF2:=Lib.hid (show FE0=RE from HFE.out.symm.trans hRE)
   have HF3:=Lib.hid (show FG0=g from HFG.out.symm)
   clear hRT hRE
   go_wp2_with (refine wpList_load_mid rfl 29 (.tmp 12) rfl (w.heap.size+3) 0 rfl (staL s) _ HD.out.rt Tryz.underlying29 rfl info_sta ?_)
   ((with_reducible refine(HWI.out _).mono ?_);rintro e w1 ⟨rfl,b1⟩)
   have HD1:=Lib.hid (HD.out.below b1)
   clear b1
   go_wp2_with (refine store_row rfl 29 (.tmp 10) (.tmp 226) rfl (w.heap.size+2) rfl (staL RT) rfl _ Tryz.underlying29 rfl info_sta (sta_one RT) HD1.out.hasr ?_;intro Y hY hl;have HL:=Lib.hid hl;have HY:=Lib.hid (HD1.out.res hY);clear hY hl)
   exact bodyPost_ret (results_cell_tmp rfl rfl rfl HL.out) rfl ⟨by rw[HF1.out,HF2.out];rfl,by rw[HF3.out];exact HY.out.bus,HY.out.but⟩
  by_cases h15:op=15
  ·subst h15
   as_aux_lemma=>
   have k0:=HD.out.op
   have HWI:=Lib.hid (fun u=>rwide_any s 15 x HS.out x0 x1 u)
   rw[show staV s=.agg (staL s).toArray from rfl]at HWI
   obtain⟨RT,hRT⟩:∃RT,(if wideO s 15 x then wideT s 15 x else s)=RT:=⟨_,rfl⟩
   obtain⟨RE,hRE⟩:∃RE:Int,(if wideO s 15 x then 0 else 3)=RE:=⟨_,rfl⟩
   rw[show(if wideO s 15 x then staV (wideT s 15 x)else .agg (staL s).toArray)=.agg (staL RT).toArray by rw[←hRT];split<;>rfl,hRE]at HWI
   have HF1:=Lib.hid (show FT0=RT from HFT.out.symm.trans hRT)
   have HF2:=Lib.hid (show FE0=RE from HFE.out.symm.trans hRE)
   have HF3:=Lib.hid (show FG0=g from HFG.out.symm)
   clear hRT hRE
   go_wp2_with (refine wpList_load_mid rfl 29 (.tmp 12) rfl (w.heap.size+3) 0 rfl (staL s) _ HD.out.rt Tryz.underlying29 rfl info_sta ?_)
   ((with_reducible refine(HWI.out _).mono ?_);rintro e w1 ⟨rfl,b1⟩)
   have HD1:=Lib.hid (HD.out.below b1)
   clear b1
   go_wp2_with (refine store_row rfl 29 (.tmp 10) (.tmp 226) rfl (w.heap.size+2) rfl (staL RT) rfl _ Tryz.underlying29 rfl info_sta (sta_one RT) HD1.out.hasr ?_;intro Y hY hl;have HL:=Lib.hid hl;have HY:=Lib.hid (HD1.out.res hY);clear hY hl)
   exact bodyPost_ret (results_cell_tmp rfl rfl rfl HL.out) rfl ⟨by rw[HF1.out,HF2.out];rfl,by rw[HF3.out];exact HY.out.bus,HY.out.but⟩
  by_cases h22:op=22
  ·subst h22
   as_aux_lemma=>
   have k0:=HD.out.op
   have HMA:=Lib.hid (fun u hu=>rmay13_any rb R g cc dd s ⟨ak,ar,ab,ai,ac,ad⟩ n HS.out A0 A1 u hu)
   have HMB:=Lib.hid (fun u hu=>rmay13_any rb R g cc dd s ⟨bk,br,bb,bi,bc,bd⟩ n HS.out B0 B1 u hu)
   obtain⟨PA,hPA⟩:∃z,putO dd s ⟨ak,ar,ab,ai,ac,ad⟩ n=z:=⟨_,rfl⟩
   obtain⟨PB,hPB⟩:∃z,putO dd s ⟨bk,br,bb,bi,bc,bd⟩ n=z:=⟨_,rfl⟩
   have HF1:=Lib.hid (show FT0=if PA&&PB then putS (putS s ⟨ak,ar,ab,ai,ac,ad⟩ y) ⟨bk,br,bb,bi,bc,bd⟩ x else s by rw[←hPA,←hPB];exact HFT.out.symm)
   have HF2:=Lib.hid (show FE0=if PA&&PB then 0 else 2 by rw[←hPA,←hPB];exact HFE.out.symm)
   have HF3:=Lib.hid (show FG0=if PA&&PB then putG (putG g dd s ⟨ak,ar,ab,ai,ac,ad⟩ n y) dd s ⟨bk,br,bb,bi,bc,bd⟩ n x else g by rw[←hPA,←hPB];exact HFG.out.symm)
   rw[hPA,show staV s=.agg (staL s).toArray from rfl,show opV (⟨ak,ar,ab,ai,ac,ad⟩:Opd)=.agg (opL' ⟨ak,ar,ab,ai,ac,ad⟩).toArray from rfl]at HMA
   rw[hPB,show staV s=.agg (staL s).toArray from rfl,show opV (⟨bk,br,bb,bi,bc,bd⟩:Opd)=.agg (opL' ⟨bk,br,bb,bi,bc,bd⟩).toArray from rfl]at HMB
   clear hPA hPB HFT HFE HFG
   go_wp2_with (first
    |(refine wpList_load_mid rfl 29 (.tmp 6) rfl w.heap.size 0 rfl (staL s) _ HD.out.rs Tryz.underlying29 rfl info_sta ?_)
    |(refine wpList_load_mid rfl 32 (.tmp 232) rfl (w.heap.size+1) 3 rfl (opL' ⟨ak,ar,ab,ai,ac,ad⟩) _ HD.out.ra Tryz.underlying32 rfl info_opd1 ?_))
   ((with_reducible refine(HMA.out _ HD.out.bus).mono ?_);rintro e w1 ⟨rfl,b1⟩)
   have HD:=Lib.hid (HD.out.below b1)
   clear b1
   cases PA with
   |false=>
    have HT1:=Lib.hid (show FT0=s by rw[HF1.out];rfl)
    have HE1:=Lib.hid (show FE0=2 by rw[HF2.out];rfl)
    have HG1:=Lib.hid (show FG0=g by rw[HF3.out];rfl)
    go_wp2_with (first
     |(refine wpList_load_mid rfl 29 (.tmp 6) rfl w.heap.size 0 rfl (staL s) _ HD.out.rs Tryz.underlying29 rfl info_sta ?_)
     |(refine store_row rfl 29 (.tmp 10) (.tmp 246) rfl (w.heap.size+2) rfl (staL s) rfl _ Tryz.underlying29 rfl info_sta (sta_one s) HD.out.hasr ?_;intro Y hY hl;have HL:=Lib.hid hl;have HY:=Lib.hid (HD.out.res hY);clear hY hl))
    exact bodyPost_ret (results_cell_tmp rfl rfl rfl HL.out) rfl ⟨by rw[HT1.out,HE1.out];rfl,by rw[HG1.out];exact HY.out.bus,HY.out.but⟩
   |true=>
    go_wp2_with (first
     |(refine wpList_met (by rfl) ?_;refine wpList_load_mid rfl 29 (.tmp 6) rfl w.heap.size 0 rfl (staL s) _ HD.out.rs Tryz.underlying29 rfl info_sta ?_)
     |(refine wpList_met (by rfl) ?_;refine wpList_load_mid rfl 32 (.tmp 240) rfl (w.heap.size+1) 9 rfl (opL' ⟨bk,br,bb,bi,bc,bd⟩) _ HD.out.rbo Tryz.underlying32 rfl info_opd1 ?_))
    ((with_reducible refine(HMB.out _ HD.out.bus).mono ?_);rintro e w2 ⟨rfl,b2⟩)
    have HD:=Lib.hid (HD.out.below b2)
    clear b2
    cases PB with
    |false=>
     have HT1:=Lib.hid (show FT0=s by rw[HF1.out];rfl)
     have HE1:=Lib.hid (show FE0=2 by rw[HF2.out];rfl)
     have HG1:=Lib.hid (show FG0=g by rw[HF3.out];rfl)
     go_wp2_with (first
      |(refine wpList_load_mid rfl 29 (.tmp 6) rfl w.heap.size 0 rfl (staL s) _ HD.out.rs Tryz.underlying29 rfl info_sta ?_)
      |(refine store_row rfl 29 (.tmp 10) (.tmp 246) rfl (w.heap.size+2) rfl (staL s) rfl _ Tryz.underlying29 rfl info_sta (sta_one s) HD.out.hasr ?_;intro Y hY hl;have HL:=Lib.hid hl;have HY:=Lib.hid (HD.out.res hY);clear hY hl))
     exact bodyPost_ret (results_cell_tmp rfl rfl rfl HL.out) rfl ⟨by rw[HT1.out,HE1.out];rfl,by rw[HG1.out];exact HY.out.bus,HY.out.but⟩
    |true=>
     have HPU:=Lib.hid (fun u hu=>rput13_any rb R g cc dd s s ⟨ak,ar,ab,ai,ac,ad⟩ n y HS.out HS.out A0 A1 y0 (by omega) u hu)
     obtain⟨T1,hT1⟩:∃z,putS s ⟨ak,ar,ab,ai,ac,ad⟩ y=z:=⟨_,rfl⟩
     obtain⟨G1,hG1⟩:∃z,putG g dd s ⟨ak,ar,ab,ai,ac,ad⟩ n y=z:=⟨_,rfl⟩
     have ok1:StaOk T1:=by
      rw[←hT1]
      unfold putS
      split
      ·exact HS.out
      ·exact set_ok HS.out _ _ y0 (by omega)
     have HPV:=Lib.hid (fun u hu=>rput13_any rb R G1 cc dd s T1 ⟨bk,br,bb,bi,bc,bd⟩ n x HS.out ok1 B0 B1 x0 (by omega) u hu)
     obtain⟨T2,hT2⟩:∃z,putS T1 ⟨bk,br,bb,bi,bc,bd⟩ x=z:=⟨_,rfl⟩
     obtain⟨G2,hG2⟩:∃z,putG G1 dd s ⟨bk,br,bb,bi,bc,bd⟩ n x=z:=⟨_,rfl⟩
     obtain⟨Q1,hQ1⟩:∃z,putO dd s ⟨ak,ar,ab,ai,ac,ad⟩ n=z:=⟨_,rfl⟩
     obtain⟨Q2,hQ2⟩:∃z,putO dd s ⟨bk,br,bb,bi,bc,bd⟩ n=z:=⟨_,rfl⟩
     have HT1:=Lib.hid (show FT0=T2 by rw[HF1.out,hT1,hT2];rfl)
     have HE1:=Lib.hid (show FE0=0 by rw[HF2.out];rfl)
     have HG1:=Lib.hid (show FG0=G2 by rw[HF3.out,hG1,hG2];rfl)
     rw[hT1,hG1,hQ1,show staV s=.agg (staL s).toArray from rfl,show staV T1=.agg (staL T1).toArray from rfl,show opV (⟨ak,ar,ab,ai,ac,ad⟩:Opd)=.agg (opL' ⟨ak,ar,ab,ai,ac,ad⟩).toArray from rfl]at HPU
     rw[hT2,hG2,hQ2,show staV s=.agg (staL s).toArray from rfl,show staV T1=.agg (staL T1).toArray from rfl,show staV T2=.agg (staL T2).toArray from rfl,show opV (⟨bk,br,bb,bi,bc,bd⟩:Opd)=.agg (opL' ⟨bk,br,bb,bi,bc,bd⟩).toArray from rfl]at HPV
     clear hT1 hG1 hT2 hG2 hQ1 hQ2 ok1 HF1 HF2 HF3
     go_wp2_with (first
      |(refine wpList_load_mid rfl 29 (.tmp 6) rfl w.heap.size 0 rfl (staL s) _ HD.out.rs Tryz.underlying29 rfl info_sta ?_)
      |(refine wpList_load_mid rfl 29 (.tmp 12) rfl (w.heap.size+3) 0 rfl (staL s) _ HD.out.rt Tryz.underlying29 rfl info_sta ?_)
      |(refine wpList_load_mid rfl 32 (.tmp 251) rfl (w.heap.size+1) 3 rfl (opL' ⟨ak,ar,ab,ai,ac,ad⟩) _ HD.out.ra Tryz.underlying32 rfl info_opd1 ?_))
     ((with_reducible refine(HPU.out _ HD.out.bus).mono ?_);rintro e w3 ⟨rfl,r3,b3⟩)
     have HD3:=Lib.hid (HD.out.wrote r3 b3)
     clear r3 b3
     go_wp2_with (first
      |(refine store_named rfl 29 (.tmp 12) (.tmp 257) rfl (w.heap.size+3) 0 (staL T1) rfl rfl (HD3.out.has 0 23 (by decide)) info_sta (sta_one T1) ?_;intro V2 hV;have HD4:=Lib.hid (HD3.out.cells hV (setL_whole23 T1 s));clear hV)
      |(refine wpList_load_mid rfl 29 (.tmp 6) rfl w.heap.size 0 rfl (staL s) _ HD4.out.rs Tryz.underlying29 rfl info_sta ?_)
      |(refine wpList_load_mid rfl 29 (.tmp 12) rfl (w.heap.size+3) 0 rfl (staL T1) _ HD4.out.rt Tryz.underlying29 rfl info_sta ?_)
      |(refine wpList_load_mid rfl 32 (.tmp 263) rfl (w.heap.size+1) 9 rfl (opL' ⟨bk,br,bb,bi,bc,bd⟩) _ HD4.out.rbo Tryz.underlying32 rfl info_opd1 ?_))
     ((with_reducible refine(HPV.out _ HD4.out.bus).mono ?_);rintro e w5 ⟨rfl,r5,b5⟩)
     have HD5:=Lib.hid (HD4.out.wrote r5 b5)
     clear r5 b5
     go_wp2_with (first
      |(refine store_named rfl 29 (.tmp 12) (.tmp 269) rfl (w.heap.size+3) 0 (staL T2) rfl rfl (HD5.out.has 0 23 (by decide)) info_sta (sta_one T2) ?_;intro V3 hV;have HD6:=Lib.hid (HD5.out.cells hV (setL_whole23 T2 T1));clear hV)
      |(refine wpList_load_mid rfl 29 (.tmp 12) rfl (w.heap.size+3) 0 rfl (staL T2) _ HD6.out.rt Tryz.underlying29 rfl info_sta ?_)
      |(refine store_row rfl 29 (.tmp 10) (.tmp 271) rfl (w.heap.size+2) rfl (staL T2) rfl _ Tryz.underlying29 rfl info_sta (sta_one T2) HD6.out.hasr ?_;intro Y hY hl;have HL:=Lib.hid hl;have HY:=Lib.hid (HD6.out.res hY);clear hY hl))
     exact bodyPost_ret (results_cell_tmp rfl rfl rfl HL.out) rfl ⟨by rw[HT1.out,HE1.out];rfl,by rw[HG1.out];exact HY.out.bus,HY.out.but⟩
  have h1:¬op=1:=fun h=>HOP.out (by simp[h])
  have e1:(op==1)=false:=by simpa using h1
  have h3:¬op=3:=fun h=>HOP.out (by simp[h])
  have e3:(op==3)=false:=by simpa using h3
  have h6:¬op=6:=fun h=>HOP.out (by simp[h])
  have e6:(op==6)=false:=by simpa using h6
  have h8:¬op=8:=fun h=>HOP.out (by simp[h])
  have e8:(op==8)=false:=by simpa using h8
  have h4:¬op=4:=fun h=>HOP.out (by simp[h])
  have e4:(op==4)=false:=by simpa using h4
  have h5:¬op=5:=fun h=>HOP.out (by simp[h])
  have e5:(op==5)=false:=by simpa using h5
  have h9:¬op=9:=fun h=>HOP.out (by simp[h])
  have e9:(op==9)=false:=by simpa using h9
  have h2:¬op=2:=fun h=>HOP.out (by simp[h])
  have e2:(op==2)=false:=by simpa using h2
  have h7:¬op=7:=fun h=>HOP.out (by simp[h])
  have e7:(op==7)=false:=by simpa using h7
  have h10:¬op=10:=fun h=>HOP.out (by simp[h])
  have e10:(op==10)=false:=by simpa using h10
  have h11:¬op=11:=fun h=>HOP.out (by simp[h])
  have e11:(op==11)=false:=by simpa using h11
  have h16:¬op=16:=fun h=>HOP.out (by simp[h])
  have e16:(op==16)=false:=by simpa using h16
  have h17:¬op=17:=fun h=>HOP.out (by simp[h])
  have e17:(op==17)=false:=by simpa using h17
  have h18:¬op=18:=fun h=>HOP.out (by simp[h])
  have e18:(op==18)=false:=by simpa using h18
  have h19:¬op=19:=fun h=>HOP.out (by simp[h])
  have e19:(op==19)=false:=by simpa using h19
  have h20:¬op=20:=fun h=>HOP.out (by simp[h])
  have e20:(op==20)=false:=by simpa using h20
  have h35:¬op=35:=fun h=>HOP.out (by simp[h])
  have e35:(op==35)=false:=by simpa using h35
  have h36:¬op=36:=fun h=>HOP.out (by simp[h])
  have e36:(op==36)=false:=by simpa using h36
  have h25:¬op=25:=fun h=>HOP.out (by simp[h])
  have e25:(op==25)=false:=by simpa using h25
  have h26:¬op=26:=fun h=>HOP.out (by simp[h])
  have e26:(op==26)=false:=by simpa using h26
  have h27:¬op=27:=fun h=>HOP.out (by simp[h])
  have e27:(op==27)=false:=by simpa using h27
  have h28:¬op=28:=fun h=>HOP.out (by simp[h])
  have e28:(op==28)=false:=by simpa using h28
  have h29:¬op=29:=fun h=>HOP.out (by simp[h])
  have e29:(op==29)=false:=by simpa using h29
  have h30:¬op=30:=fun h=>HOP.out (by simp[h])
  have e30:(op==30)=false:=by simpa using h30
  have e12:(op==12)=false:=by simpa using h12
  have e13:(op==13)=false:=by simpa using h13
  have e14:(op==14)=false:=by simpa using h14
  have e15:(op==15)=false:=by simpa using h15
  have e22:(op==22)=false:=by simpa using h22
  have HQ:=Lib.hid (fun q hq=>done_fin (I:=⟨op,cond,n,⟨ak,ar,ab,ai,ac,ad⟩,⟨bk,br,bb,bi,bc,bd⟩,c,rep,len⟩) (by simp[isWide,h12,h13,h14,h15]) h22 HFT.out HFE.out HFG.out q hq)
  have HC0:=Lib.hid (show calcF s ⟨op,cond,n,⟨ak,ar,ab,ai,ac,ad⟩,⟨bk,br,bb,bi,bc,bd⟩,c,rep,len⟩ x y=⟨s,0,n,true⟩by simp[calcF,h1,h3,h6,h8,h4,h5,h9,h2,h7,h10,h11,h16,h17,h18,h19,h20,h35,h36,h25,h26,h27,h28,h29,h30])
  clear HFT HFE HFG h1 h3 h6 h8 h4 h5 h9 h2 h7 h10 h11 h16 h17 h18 h19 h20 h35 h36 h25 h26 h27 h28 h29 h30 h12 h13 h14 h15 h22
  go_wp2_with fail
  go_meet
  exact⟨⟨s,0,n,true⟩,rfl,rfl,rfl,(by show(0:Int)≤0;decide),(by show(0:Int)<4294967296;decide),HS.out,HD.out,HQ.out _ HC0.out⟩
 case rest=>
  obtain⟨⟨t,v,m,st⟩,rfl,rfl,rfl,v0,v1,tok,hd,hT,hE,hG⟩:=hcut
  have v0:0≤v:=v0
  have v1:v<4294967296:=v1
  have HD:=Lib.hid (show DI w rb R g cc dd s t ⟨op,cond,n,⟨ak,ar,ab,ai,ac,ad⟩,⟨bk,br,bb,bi,bc,bd⟩,c,rep,len⟩ _ from hd)
  clear hd
  cases st with
  |false=>
   have HT:=Lib.hid (show t=FT0 from hT)
   have HE:=Lib.hid (show(0:Int)=FE0 from hE)
   have HG:=Lib.hid (show g=FG0 from hG)
   clear hT hE hG
   go_wp2_with (first
    |(refine wpList_load_mid rfl 29 (.tmp 12) rfl (w.heap.size+3) 0 rfl (staL t) _ HD.out.rt Tryz.underlying29 rfl info_sta ?_)
    |(refine store_row rfl 29 (.tmp 10) (.tmp 274) rfl (w.heap.size+2) rfl (staL t) rfl _ Tryz.underlying29 rfl info_sta (sta_one t) HD.out.hasr ?_;intro Y hY hl;have HL:=Lib.hid hl;have HY:=Lib.hid (HD.out.res hY);clear hY hl))
   exact bodyPost_ret (results_cell_tmp rfl rfl rfl HL.out) rfl ⟨by rw[←HT.out,←HE.out];rfl,by rw[←HG.out];exact HY.out.bus,HY.out.but⟩
  |true=>
   have HPU:=Lib.hid (fun u hu=>rput13_any rb R g cc dd s t ⟨ak,ar,ab,ai,ac,ad⟩ m v HS.out tok A0 A1 v0 (by omega) u hu)
   obtain⟨PO,hPO⟩:∃z,putO dd s ⟨ak,ar,ab,ai,ac,ad⟩ m=z:=⟨_,rfl⟩
   obtain⟨PT,hPT⟩:∃z,putS t ⟨ak,ar,ab,ai,ac,ad⟩ v=z:=⟨_,rfl⟩
   obtain⟨PG',hPG⟩:∃z,putG g dd s ⟨ak,ar,ab,ai,ac,ad⟩ m v=z:=⟨_,rfl⟩
   have HT:=Lib.hid (show(if PO then PT else s)=FT0 by rw[←hPO,←hPT];exact hT)
   have HE:=Lib.hid (show(if PO then 0 else 2)=FE0 by rw[←hPO];exact hE)
   have HG:=Lib.hid (show PG'=FG0 by rw[←hPG];exact hG)
   rw[hPO,hPT,hPG,show staV s=.agg (staL s).toArray from rfl,show staV t=.agg (staL t).toArray from rfl,show opV (⟨ak,ar,ab,ai,ac,ad⟩:Opd)=.agg (opL' ⟨ak,ar,ab,ai,ac,ad⟩).toArray from rfl,show staV PT=.agg (staL PT).toArray from rfl]at HPU
   clear hT hE hG hPO hPT hPG
   go_wp2_with (first
    |(refine wpList_load_mid rfl 29 (.tmp 6) rfl w.heap.size 0 rfl (staL s) _ HD.out.rs Tryz.underlying29 rfl info_sta ?_)
    |(refine wpList_load_mid rfl 29 (.tmp 12) rfl (w.heap.size+3) 0 rfl (staL t) _ HD.out.rt Tryz.underlying29 rfl info_sta ?_)
    |(refine wpList_load_mid rfl 32 (.tmp 279) rfl (w.heap.size+1) 3 rfl (opL' ⟨ak,ar,ab,ai,ac,ad⟩) _ HD.out.ra Tryz.underlying32 rfl info_opd1 ?_))
   ((with_reducible refine(HPU.out _ HD.out.bus).mono ?_);rintro e w1 ⟨rfl,r1,b1⟩)
   have HD1:=Lib.hid (HD.out.wrote r1 b1)
   clear r1 b1
   cases PO with
   |true=>
    have HT:=Lib.hid (show PT=FT0 from HT.out)
    go_wp2_with (first
     |(refine store_named rfl 29 (.tmp 12) (.tmp 285) rfl (w.heap.size+3) 0 (staL PT) rfl rfl (HD1.out.has 0 23 (by decide)) info_sta (sta_one PT) ?_;intro V2 hV;have HD2:=Lib.hid (HD1.out.cells hV (setL_whole23 PT t));clear hV)
     |(refine wpList_load_mid rfl 29 (.tmp 12) rfl (w.heap.size+3) 0 rfl (staL PT) _ HD2.out.rt Tryz.underlying29 rfl info_sta ?_)
     |(refine store_row rfl 29 (.tmp 10) (.tmp 290) rfl (w.heap.size+2) rfl (staL PT) rfl _ Tryz.underlying29 rfl info_sta (sta_one PT) HD2.out.hasr ?_;intro Y hY hl;have HL:=Lib.hid hl;have HY:=Lib.hid (HD2.out.res hY);clear hY hl))
    exact bodyPost_ret (results_cell_tmp rfl rfl rfl HL.out) rfl ⟨by rw[←HT.out,←HE.out];rfl,by rw[←HG.out];exact HY.out.bus,HY.out.but⟩
   |false=>
    have HT:=Lib.hid (show s=FT0 from HT.out)
    go_wp2_with (first
     |(refine store_named rfl 29 (.tmp 12) (.tmp 285) rfl (w.heap.size+3) 0 (staL PT) rfl rfl (HD1.out.has 0 23 (by decide)) info_sta (sta_one PT) ?_;intro V2 hV;have HD2:=Lib.hid (HD1.out.cells hV (setL_whole23 PT t));clear hV)
     |(refine wpList_load_mid rfl 29 (.tmp 6) rfl w.heap.size 0 rfl (staL s) _ HD2.out.rs Tryz.underlying29 rfl info_sta ?_)
     |(refine store_row rfl 29 (.tmp 10) (.tmp 289) rfl (w.heap.size+2) rfl (staL s) rfl _ Tryz.underlying29 rfl info_sta (sta_one s) HD2.out.hasr ?_;intro Y hY hl;have HL:=Lib.hid hl;have HY:=Lib.hid (HD2.out.res hY);clear hY hl))
    exact bodyPost_ret (results_cell_tmp rfl rfl rfl HL.out) rfl ⟨by rw[←HT.out,←HE.out];rfl,by rw[←HG.out];exact HY.out.bus,HY.out.but⟩
end
end Go.Proofs.YtmdncgfheeijaaaGreat
