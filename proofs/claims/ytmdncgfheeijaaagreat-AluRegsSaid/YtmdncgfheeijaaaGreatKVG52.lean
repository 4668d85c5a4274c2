import Derived.Test.YtmdncgfheeijaaaGreatKVG10
import Derived.Test.YtmdncgfheeijaaaGreatKVG51
namespace Go.Proofs.YtmdncgfheeijaaaGreat
open Go.ChangeShapes Go.WideShapes Go.ChangeAt Go.RowKit
section
attribute [local go_sem] signed_u32 max_u32
set_option maxRecDepth 100000
set_option maxHeartbeats 40000000
theorem rdone_b(rb:Nat)(R:Nat→Prop)(g:Int→Int)(cc dd:Sg)(s:Sta)(I:Ins)(x y:Int)(hs:StaOk s)(hA:0≤I.a.disp∧I.a.disp<4294967296)(hB:0≤I.b.disp∧I.b.disp<4294967296)(hc:0≤I.c∧I.c<4294967296)(x0:0≤x)(x1:x<4294967296)(y0:0≤y)(y1:y<4294967296)(w:World)(hR:RBus w rb R g cc dd)(hop:I.op∈([7,10,11,16,17,18,19,20]:List Int)):
  Calls Tryz.prog 82 #[.pointer (some ⟨rb,0,none⟩),staV s,insV I,.int .u32 x,.int .u32 y] w fun e w'=>e=.returned (.tuple #[staV (doneT dd s I x y),.int .i64 (doneE dd s I x y)])∧RBus w' rb R (doneG g dd s I x y) cc dd∧But R w w':=by
 have HS:=Lib.hid hs
 have HR:=Lib.hid hR
 have HOP:=Lib.hid hop
 clear hop
 obtain⟨op,cond,n,⟨ak,ar,ab,ai,ac,ad⟩,⟨bk,br,bb,bi,bc,bd⟩,c,rep,len⟩:=I
 obtain⟨FT0,hFT⟩:∃z,doneT dd s ⟨op,cond,n,⟨ak,ar,ab,ai,ac,ad⟩,⟨bk,br,bb,bi,bc,bd⟩,c,rep,len⟩ x y=z:=⟨_,rfl⟩
 obtain⟨FE0,hFE⟩:∃z,doneE dd s ⟨op,cond,n,⟨ak,ar,ab,ai,ac,ad⟩,⟨bk,br,bb,bi,bc,bd⟩,c,rep,len⟩ x y=z:=⟨_,rfl⟩
 obtain⟨FG0,hFG⟩:∃z,doneG g dd s ⟨op,cond,n,⟨ak,ar,ab,ai,ac,ad⟩,⟨bk,br,bb,bi,bc,bd⟩,c,rep,len⟩ x y=z:=⟨_,rfl⟩
 have HFT:=Lib.hid hFT
 have HFE:=Lib.hid hFE
 have HFG:=Lib.hid hFG
 have A0:=hA.1
 have A1:=hA.2
 have B0:=hB.1
 have B1:=hB.2
 dsimp only at A0 A1 B0 B1
 rw[hFT,hFE,hFG]
 clear hs hR hA hB hc hFT hFE hFG
 unfold staV insV insC
 go_enter Tryz.func82,Tryz.ntmps82
 go_upto_region 1 with fail
 obtain⟨W,hW⟩:∃W,W=((w.alloc (.cells (staL s).toArray 29)).alloc (.cells #[.int .i64 op,.int .i64 cond,.int .i64 n,.int .i64 ak,.int .i64 ar,.int .i64 ab,.int .i64 ai,.int .i64 ac,.int .u32 ad,.int .i64 bk,.int .i64 br,.int .i64 bb,.int .i64 bi,.int .i64 bc,.int .u32 bd,.int .u32 c,.bool rep,.int .i64 len] 34)).alloc (.cells #[.int .u32 0,.int .u32 0,.int .u32 0,.int .u32 0,.int .u32 0,.int .u32 0,.int .u32 0,.int .u32 0,.int .u32 0,.bool false,.bool false,.bool false,.bool false,.bool false,.bool false,.int .u64 0,.int .u64 0,.int .u64 0,.int .u64 0,.int .u64 0,.int .u64 0,.int .u64 0,.int .u64 0] 29):=⟨_,rfl⟩
 rw[←hW]
 obtain⟨h1,h2,h3,hbel⟩:=heap_three hW
 have hsz:W.heap.size=w.heap.size+3:=by rw[hW];simp
 have HH:=Lib.hid (And.intro h1 (And.intro h2 (And.intro h3 hbel)))
 have HSZ:=Lib.hid hsz
 have HTH:=Lib.hid (there_alloc_new W #[.int .u32 0,.int .u32 0,.int .u32 0,.int .u32 0,.int .u32 0,.int .u32 0,.int .u32 0,.int .u32 0,.int .u32 0,.bool false,.bool false,.bool false,.bool false,.bool false,.bool false,.int .u64 0,.int .u64 0,.int .u64 0,.int .u64 0,.int .u64 0,.int .u64 0,.int .u64 0,.int .u64 0] 29 23 (by decide))
 clear hW h1 h2 h3 hbel hsz
 go_upto_region 2 with(first
  |(refine wpList_load_mid rfl 29 (.tmp 6) rfl w.heap.size 0 rfl (staL s) _ (range_in13 HH.out.1 0 _ rfl) Tryz.underlying29 rfl info_sta ?_)
  |(refine store_row rfl 29 (.tmp 12) (.tmp 19) rfl W.heap.size rfl (staL s) rfl _ Tryz.underlying29 rfl info_sta (sta_one s) HTH.out ?_;intro V hV hl;clear hl))
 have hd0:DI w rb R g cc dd s s ⟨op,cond,n,⟨ak,ar,ab,ai,ac,ad⟩,⟨bk,br,bb,bi,bc,bd⟩,c,rep,len⟩ V:=by
  obtain⟨h1,h2,h3,hbel⟩:=HH.out
  have hb:Below W.heap.size W V:=by rw[hV];exact below_setCells (Nat.le_refl _) _ _ _ (below_last (Below.refl _ _) _)
  have k:∀{j:Nat} {x:Obj},W.heap[j]?=some x→V.heap[j]?=some x:=fun{j x} hj=>(hb.block j (Array.getElem?_eq_some_iff.1 hj).1).trans hj
  have hbv:=hbel.trans (hb.mono hbel.size)
  refine⟨k h1,k h2,⟨_,k h3,rfl⟩,?_,HR.out.below hbv,fun j hj=>HR.out.lt j hj,But.of_below hbv⟩
  have h4:(W.alloc (.cells #[.int .u32 0,.int .u32 0,.int .u32 0,.int .u32 0,.int .u32 0,.int .u32 0,.int .u32 0,.int .u32 0,.int .u32 0,.bool false,.bool false,.bool false,.bool false,.bool false,.bool false,.int .u64 0,.int .u64 0,.int .u64 0,.int .u64 0,.int .u64 0,.int .u64 0,.int .u64 0,.int .u64 0] 29)).heap[W.heap.size]?=some (.cells #[.int .u32 0,.int .u32 0,.int .u32 0,.int .u32 0,.int .u32 0,.int .u32 0,.int .u32 0,.int .u32 0,.int .u32 0,.bool false,.bool false,.bool false,.bool false,.bool false,.bool false,.int .u64 0,.int .u64 0,.int .u64 0,.int .u64 0,.int .u64 0,.int .u64 0,.int .u64 0,.int .u64 0] 29 (0,0)):=by show(W.heap.push _)[W.heap.size]?=_;simp
  have h5:=block_setCells (staL s) 0 _ _ h4
  rw[←hV,HSZ.out,setL_whole s (by rfl)]at h5
  exact h5
 have HD:=Lib.hid hd0
 have k0:V.cell? ⟨w.heap.size+1,0,none⟩=some (.int .i64 op):=HD.out.op
 have k2:V.cell? ⟨w.heap.size+1,2,none⟩=some (.int .i64 n):=HD.out.size
 rw[show W.heap.size=w.heap.size+3 from HSZ.out]
 clear HH HTH hV hd0
 go_upto_block 0 with fail
 go_cut [13,14,15] (fun v13 v14 v15 wx=>∃q:Calc,v13=.int .i64 q.n∧v14=.int .u32 q.v∧v15=.bool q.st∧0≤q.v∧q.v<4294967296∧StaOk q.t∧DI w rb R g cc dd s q.t ⟨op,cond,n,⟨ak,ar,ab,ai,ac,ad⟩,⟨bk,br,bb,bi,bc,bd⟩,c,rep,len⟩ wx∧(finT dd s ⟨op,cond,n,⟨ak,ar,ab,ai,ac,ad⟩,⟨bk,br,bb,bi,bc,bd⟩,c,rep,len⟩ q=FT0∧finE dd s ⟨op,cond,n,⟨ak,ar,ab,ai,ac,ad⟩,⟨bk,br,bb,bi,bc,bd⟩,c,rep,len⟩ q=FE0∧finG g dd s ⟨op,cond,n,⟨ak,ar,ab,ai,ac,ad⟩,⟨bk,br,bb,bi,bc,bd⟩,c,rep,len⟩ q=FG0))
 case first=>
  by_cases h7:op=7
  ·subst h7
   as_aux_lemma=>
   have k0:=HD.out.op
   have HQ:=Lib.hid (fun q hq=>done_fin (I:=⟨7,cond,n,⟨ak,ar,ab,ai,ac,ad⟩,⟨bk,br,bb,bi,bc,bd⟩,c,rep,len⟩) rfl (show ¬(7:Int)=22 by decide) HFT.out HFE.out HFG.out q hq)
   clear HFT HFE HFG
   go_wp2_with fail
   ((with_reducible refine(rlogic_any (bits .xor .u32 x y) n _ (xor_lo x y x0 x1 y0 y1) (xor_hi x y x0 x1 y0 y1)).mono ?_);rintro e w1 ⟨rfl,b1⟩)
   have HD1:=Lib.hid (HD.out.below b1)
   clear b1
   go_wp2_with (refine store_named rfl 25 (.tmp 110) (.tmp 109) rfl (w.heap.size+3) 9 (flL false (par (cut (bits .xor .u32 x y) n)) (zer (cut (bits .xor .u32 x y) n)) (hi (cut (bits .xor .u32 x y) n) n) false false) rfl rfl (HD1.out.has 9 6 (by decide)) info_fl15 (flL_one _ _ _ _ _ _) ?_;intro V hV;have HD2:=Lib.hid (HD1.out.cells hV (setL_fl15 s _ _ _ _ _ _));clear hV)
   go_meet
   exact⟨logQ s (bits .xor .u32 x y) n true,rfl,rfl,rfl,cut_lo _ _,cut_hi _ _,fl_ok HS.out _ _ _ _ _ _,HD2.out,HQ.out _ (by rfl)⟩
  by_cases h10:op=10
  ·subst h10
   as_aux_lemma=>
   have k0:=HD.out.op
   have HQ:=Lib.hid (fun q hq=>done_fin (I:=⟨10,cond,n,⟨ak,ar,ab,ai,ac,ad⟩,⟨bk,br,bb,bi,bc,bd⟩,c,rep,len⟩) rfl (show ¬(10:Int)=22 by decide) HFT.out HFE.out HFG.out q hq)
   clear HFT HFE HFG
   go_wp2_with fail
   go_meet
   exact⟨⟨s,bits .xor .u32 4294967295 x,n,true⟩,rfl,rfl,rfl,xor_lo 4294967295 x (by decide) (by decide) x0 x1,xor_hi 4294967295 x (by decide) (by decide) x0 x1,HS.out,HD.out,HQ.out _ (by rfl)⟩
  by_cases h11:op=11
  ·subst h11
   as_aux_lemma=>
   have k0:=HD.out.op
   have HQ:=Lib.hid (fun q hq=>done_fin (I:=⟨11,cond,n,⟨ak,ar,ab,ai,ac,ad⟩,⟨bk,br,bb,bi,bc,bd⟩,c,rep,len⟩) rfl (show ¬(11:Int)=22 by decide) HFT.out HFE.out HFG.out q hq)
   clear HFT HFE HFG
   go_wp2_with fail
   ((with_reducible refine(rsub_any 0 x n false _ (by decide) (by decide) x0 x1).mono ?_);rintro e w1 ⟨rfl,b1⟩)
   have HD1:=Lib.hid (HD.out.below b1)
   clear b1
   go_wp2_with (refine store_named rfl 25 (.tmp 123) (.tmp 122) rfl (w.heap.size+3) 9 (flL (subC 0 x n false) (par (subV 0 x n false)) (zer (subV 0 x n false)) (hi (subV 0 x n false) n) (subO 0 x n false) false) rfl rfl (HD1.out.has 9 6 (by decide)) info_fl15 (flL_one _ _ _ _ _ _) ?_;intro V hV;have HD2:=Lib.hid (HD1.out.cells hV (setL_fl15 s _ _ _ _ _ _));clear hV)
   go_meet
   exact⟨subQ s 0 x n false true,rfl,rfl,rfl,subV_lo _ _ _ _,subV_hi _ _ _ _,fl_ok HS.out _ _ _ _ _ _,HD2.out,HQ.out _ (by rfl)⟩
  by_cases h16:op=16
  ·subst h16
   as_aux_lemma=>
   have k0:=HD.out.op
   have HQ:=Lib.hid (fun q hq=>done_fin (I:=⟨16,cond,n,⟨ak,ar,ab,ai,ac,ad⟩,⟨bk,br,bb,bi,bc,bd⟩,c,rep,len⟩) rfl (show ¬(16:Int)=22 by decide) HFT.out HFE.out HFG.out q hq)
   clear HFT HFE HFG
   go_wp2_with (refine wpList_load_mid rfl 25 (.tmp 127) rfl w.heap.size 9 rfl [.bool s.c,.bool s.p,.bool s.z,.bool s.s,.bool s.o,.bool s.d] _ HD.out.rf Tryz.underlying25 rfl info_fl15 ?_)
   ((with_reducible refine(rstep_any s.c s.p s.z s.s s.o s.d x n (1) x0 x1 _).mono ?_);rintro e w1 ⟨rfl,b1⟩)
   have HD1:=Lib.hid (HD.out.below b1)
   clear b1
   go_wp2_with (refine store_named rfl 25 (.tmp 134) (.tmp 133) rfl (w.heap.size+3) 9 (flL s.c (par (stepV x n (1))) (zer (stepV x n (1))) (hi (stepV x n (1)) n) (stepO x n (1)) s.d) rfl rfl (HD1.out.has 9 6 (by decide)) info_fl15 (flL_one _ _ _ _ _ _) ?_;intro V hV;have HD2:=Lib.hid (HD1.out.cells hV (setL_fl15 s _ _ _ _ _ _));clear hV)
   go_meet
   exact⟨stepQ s x n (1),rfl,rfl,rfl,(stepQ_b s x n (1)).1,(stepQ_b s x n (1)).2,fl_ok HS.out _ _ _ _ _ _,HD2.out,HQ.out _ (by rfl)⟩
  by_cases h17:op=17
  ·subst h17
   as_aux_lemma=>
   have k0:=HD.out.op
   have HQ:=Lib.hid (fun q hq=>done_fin (I:=⟨17,cond,n,⟨ak,ar,ab,ai,ac,ad⟩,⟨bk,br,bb,bi,bc,bd⟩,c,rep,len⟩) rfl (show ¬(17:Int)=22 by decide) HFT.out HFE.out HFG.out q hq)
   clear HFT HFE HFG
   go_wp2_with (refine wpList_load_mid rfl 25 (.tmp 138) rfl w.heap.size 9 rfl [.bool s.c,.bool s.p,.bool s.z,.bool s.s,.bool s.o,.bool s.d] _ HD.out.rf Tryz.underlying25 rfl info_fl15 ?_)
   ((with_reducible refine(rstep_any s.c s.p s.z s.s s.o s.d x n (-1) x0 x1 _).mono ?_);rintro e w1 ⟨rfl,b1⟩)
   have HD1:=Lib.hid (HD.out.below b1)
   clear b1
   go_wp2_with (refine store_named rfl 25 (.tmp 145) (.tmp 144) rfl (w.heap.size+3) 9 (flL s.c (par (stepV x n (-1))) (zer (stepV x n (-1))) (hi (stepV x n (-1)) n) (stepO x n (-1)) s.d) rfl rfl (HD1.out.has 9 6 (by decide)) info_fl15 (flL_one _ _ _ _ _ _) ?_;intro V hV;have HD2:=Lib.hid (HD1.out.cells hV (setL_fl15 s _ _ _ _ _ _));clear hV)
   go_meet
   exact⟨stepQ s x n (-1),rfl,rfl,rfl,(stepQ_b s x n (-1)).1,(stepQ_b s x n (-1)).2,fl_ok HS.out _ _ _ _ _ _,HD2.out,HQ.out _ (by rfl)⟩
  by_cases h18:op=18
  ·subst h18
   as_aux_lemma=>
   have k0:=HD.out.op
   have HQ:=Lib.hid (fun q hq=>done_fin (I:=⟨18,cond,n,⟨ak,ar,ab,ai,ac,ad⟩,⟨bk,br,bb,bi,bc,bd⟩,c,rep,len⟩) rfl (show ¬(18:Int)=22 by decide) HFT.out HFE.out HFG.out q hq)
   clear HFT HFE HFG
   go_wp2_with fail
   go_meet
   exact⟨⟨s,y,n,true⟩,rfl,rfl,rfl,y0,y1,HS.out,HD.out,HQ.out _ (by rfl)⟩
  by_cases h19:op=19
  ·subst h19
   as_aux_lemma=>
   have k0:=HD.out.op
   have HQ:=Lib.hid (fun q hq=>done_fin (I:=⟨19,cond,n,⟨ak,ar,ab,ai,ac,ad⟩,⟨bk,br,bb,bi,bc,bd⟩,c,rep,len⟩) rfl (show ¬(19:Int)=22 by decide) HFT.out HFE.out HFG.out q hq)
   clear HFT HFE HFG
   go_wp2_with fail
   ((with_reducible refine(rcut_any y n _ y0 y1).mono ?_);rintro e w1 ⟨rfl,rfl⟩)
   go_wp2_with fail
   go_meet
   exact⟨⟨s,cut y n,4,true⟩,rfl,rfl,rfl,cut_lo _ _,cut_hi _ _,HS.out,HD.out,HQ.out _ (by rfl)⟩
  by_cases h20:op=20
  ·subst h20
   as_aux_lemma=>
   have k0:=HD.out.op
   have HQ:=Lib.hid (fun q hq=>done_fin (I:=⟨20,cond,n,⟨ak,ar,ab,ai,ac,ad⟩,⟨bk,br,bb,bi,bc,bd⟩,c,rep,len⟩) rfl (show ¬(20:Int)=22 by decide) HFT.out HFE.out HFG.out q hq)
   clear HFT HFE HFG
   go_wp2_with fail
   ((with_reducible refine(rsigned_any y n _ y0 y1).mono ?_);rintro e w1 ⟨rfl,rfl⟩)
   have hw:=IntKind.wrap_u32' (sgn y n)
   go_wp2_with fail
   go_meet
   exact⟨⟨s,sgn y n%4294967296,4,true⟩,rfl,rfl,rfl,(by show 0≤sgn y n%4294967296;omega),(by show sgn y n%4294967296<4294967296;omega),HS.out,HD.out,HQ.out _ (by rfl)⟩
  exact absurd HOP.out (by simp[h7,h10,h11,h16,h17,h18,h19,h20])
 case rest=>
  obtain⟨⟨t,v,m,st⟩,rfl,rfl,rfl,v0,v1,tok,hd,hT,hE,hG⟩:=hcut
  have v0:0≤v:=v0
  have v1:v<4294967296:=v1
  have HD:=Lib.hid (show DI w rb R g cc dd s t ⟨op,cond,n,⟨ak,ar,ab,ai,ac,ad⟩,⟨bk,br,bb,bi,bc,bd⟩,c,rep,len⟩ _ from hd)
  clear hd
  cases st with
  |false=>
   have HT:=Lib.hid (show t=FT0 from hT)
   have HE:=Lib.hid (show(0:Int)=FE0 from hE)
   have HG:=Lib.hid (show g=FG0 from hG)
   clear hT hE hG
   go_wp2_with (first
    |(refine wpList_load_mid rfl 29 (.tmp 12) rfl (w.heap.size+3) 0 rfl (staL t) _ HD.out.rt Tryz.underlying29 rfl info_sta ?_)
    |(refine store_row rfl 29 (.tmp 10) (.tmp 274) rfl (w.heap.size+2) rfl (staL t) rfl _ Tryz.underlying29 rfl info_sta (sta_one t) HD.out.hasr ?_;intro Y hY hl;have HL:=Lib.hid hl;have HY:=Lib.hid (HD.out.res hY);clear hY hl))
   exact bodyPost_ret (results_cell_tmp rfl rfl rfl HL.out) rfl ⟨by rw[←HT.out,←HE.out];rfl,by rw[←HG.out];exact HY.out.bus,HY.out.but⟩
  |true=>
   have HPU:=Lib.hid (fun u hu=>rput13_any rb R g cc dd s t ⟨ak,ar,ab,ai,ac,ad⟩ m v HS.out tok A0 A1 v0 (by omega) u hu)
   obtain⟨PO,hPO⟩:∃z,putO dd s ⟨ak,ar,ab,ai,ac,ad⟩ m=z:=⟨_,rfl⟩
   obtain⟨PT,hPT⟩:∃z,putS t ⟨ak,ar,ab,ai,ac,ad⟩ v=z:=⟨_,rfl⟩
   obtain⟨PG',hPG⟩:∃z,putG g dd s ⟨ak,ar,ab,ai,ac,ad⟩ m v=z:=⟨_,rfl⟩
   have HT:=Lib.hid (show(if PO then PT else s)=FT0 by rw[←hPO,←hPT];exact hT)
   have HE:=Lib.hid (show(if PO then 0 else 2)=FE0 by rw[←hPO];exact hE)
   have HG:=Lib.hid (show PG'=FG0 by rw[←hPG];exact hG)
   rw[hPO,hPT,hPG,show staV s=.agg (staL s).toArray from rfl,show staV t=.agg (staL t).toArray from rfl,show opV (⟨ak,ar,ab,ai,ac,ad⟩:Opd)=.agg (opL' ⟨ak,ar,ab,ai,ac,ad⟩).toArray from rfl,show staV PT=.agg (staL PT).toArray from rfl]at HPU
   clear hT hE hG hPO hPT hPG
   go_wp2_with (first
    |(refine wpList_load_mid rfl 29 (.tmp 6) rfl w.heap.size 0 rfl (staL s) _ HD.out.rs Tryz.underlying29 rfl info_sta ?_)
    |(refine wpList_load_mid rfl 29 (.tmp 12) rfl (w.heap.size+3) 0 rfl (staL t) _ HD.out.rt Tryz.underlying29 rfl info_sta ?_)
    |(refine wpList_load_mid rfl 32 (.tmp 279) rfl (w.heap.size+1) 3 rfl (opL' ⟨ak,ar,ab,ai,ac,ad⟩) _ HD.out.ra Tryz.underlying32 rfl info_opd1 ?_))
   ((with_reducible refine(HPU.out _ HD.out.bus).mono ?_);rintro e w1 ⟨rfl,r1,b1⟩)
   have HD1:=Lib.hid (HD.out.wrote r1 b1)
   clear r1 b1
   cases PO with
   |true=>
    have HT:=Lib.hid (show PT=FT0 from HT.out)
    go_wp2_with (first
     |(refine store_named rfl 29 (.tmp 12) (.tmp 285) rfl (w.heap.size+3) 0 (staL PT) rfl rfl (HD1.out.has 0 23 (by decide)) info_sta (sta_one PT) ?_;intro V2 hV;have HD2:=Lib.hid (HD1.out.cells hV (setL_whole23 PT t));clear hV)
     |(refine wpList_load_mid rfl 29 (.tmp 12) rfl (w.heap.size+3) 0 rfl (staL PT) _ HD2.out.rt Tryz.underlying29 rfl info_sta ?_)
     |(refine store_row rfl 29 (.tmp 10) (.tmp 290) rfl (w.heap.size+2) rfl (staL PT) rfl _ Tryz.underlying29 rfl info_sta (sta_one PT) HD2.out.hasr ?_;intro Y hY hl;have HL:=Lib.hid hl;have HY:=Lib.hid (HD2.out.res hY);clear hY hl))
    exact bodyPost_ret (results_cell_tmp rfl rfl rfl HL.out) rfl ⟨by rw[←HT.out,←HE.out];rfl,by rw[←HG.out];exact HY.out.bus,HY.out.but⟩
   |false=>
    have HT:=Lib.hid (show s=FT0 from HT.out)
    go_wp2_with (first
     |(refine store_named rfl 29 (.tmp 12) (.tmp 285) rfl (w.heap.size+3) 0 (staL PT) rfl rfl (HD1.out.has 0 23 (by decide)) info_sta (sta_one PT) ?_;intro V2 hV;have HD2:=Lib.hid (HD1.out.cells hV (setL_whole23 PT t));clear hV)
     |(refine wpList_load_mid rfl 29 (.tmp 6) rfl w.heap.size 0 rfl (staL s) _ HD2.out.rs Tryz.underlying29 rfl info_sta ?_)
     |(refine store_row rfl 29 (.tmp 10) (.tmp 289) rfl (w.heap.size+2) rfl (staL s) rfl _ Tryz.underlying29 rfl info_sta (sta_one s) HD2.out.hasr ?_;intro Y hY hl;have HL:=Lib.hid hl;have HY:=Lib.hid (HD2.out.res hY);clear hY hl))
    exact bodyPost_ret (results_cell_tmp rfl rfl rfl HL.out) rfl ⟨by rw[←HT.out,←HE.out];rfl,by rw[←HG.out];exact HY.out.bus,HY.out.but⟩
end
end Go.Proofs.YtmdncgfheeijaaaGreat
