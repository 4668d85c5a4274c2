import Derived.Test.YtmdncgfheeijaaaGreatKUG42
namespace Go.Proofs.YtmdncgfheeijaaaGreat
open Go.ChangeShapes Go.WideShapes Go.ChangeAt Go.RowKit
set_option maxRecDepth 100000
set_option maxHeartbeats 4000000
theorem rone_e_norm(v:Value)(L:Nat)(bs:Nat→Int)(hb:∀i,0≤bs i∧bs i<256)(hL:L≤1099511627776)(w:World)(hs:Slc .u8 w v L bs)(n0:bs 0≠243)(n1:bs 0≠15)(n2:bs 0≠242)(n3:bs 0≠102)(hL2:1≤L)(g:Frm)(hrow:firstF (bs 0) (behF L bs 1) (behM L bs 1)=(g,true,false))(hh:howOk g.how=true)(hhas:hasF g.how=false):
  Calls Tryz.prog 10 #[v] w fun e w'=>e=.returned (insR (madeF (i0 g false) g zeroO 0 L bs 1))∧Below w.heap.size w w':=by
 rcases id hs with⟨_,h00⟩|⟨ad,cap,rfl,hl,hc⟩
 ·omega
 have hA0:w.cell? ad=some (.int .u8 (bs 0)):=by simpa[Addr.add]using hc 0 (by omega)
 have hA1:∀o,(w.alloc o).cell? ad=some (.int .u8 (bs 0)):=fun o=>cell_alloc hA0
 have jx0:(0:Int)<(L:Int):=by omega
 have e0:((L:Int)==0)=false:=by simp;omega
 have e0':(L==0)=false:=by simp;omega
 have hBW:∀W,Below w.heap.size w W→Slc .u8 W (.slice (some ad) L cap) L bs:=fun W hW=>hs.below hW
 have HSL:=Lib.hid hBW
 obtain⟨hbl0,hsz0,hR0,hF0⟩:=ini0 w
 have HBL0:=Lib.hid hbl0
 have HSZ0:=Lib.hid hsz0
 have HR0:=Lib.hid hR0
 have HF0:=Lib.hid hF0
 clear hbl0 hsz0 hR0 hF0
 obtain⟨c0,c1⟩:=hb 0
 have hbd:=behF_bd L bs 1
 have HFI:=first_any (bs 0) (behF L bs 1) (behM L bs 1) c0 c1 hbd.1 hbd.2
 rw[hrow]at HFI
 have HFI:Hid (∀W,Calls Tryz.prog 20 #[.int .u8 (bs 0),.int .i64 (behF L bs 1),.bool (behM L bs 1)] W fun e w'=>e=.returned (.tuple #[frmV g,.bool true,.bool false])∧Below W.heap.size W w'):=HFI
 have HBH:=Lib.hid (fun W hW=>rbehind_any _ L bs hb 1 W (HSL.out W hW))
 have q1:(bs 0==243)=false:=by simpa using n0
 have q2:(bs 0==15)=false:=by simpa using n1
 have q3:(bs 0==242)=false:=by simpa using n2
 have q4:(bs 0==102)=false:=by simpa using n3
 generalize behF L bs 1=rgb at *
 generalize behM L bs 1=mdb at *
 have hMD:∀W,Below w.heap.size w W→Calls Tryz.prog 26 #[insV (i0 g false),frmV g,opV zeroO,.int .i64 0,.slice (some ad) L cap,.int .i64 1] W fun e w'=>e=.returned (insR (madeF (i0 g false) g zeroO 0 L bs 1))∧Below W.heap.size W w':=fun W hW=>rmade_ok (i0 g false) g zeroO 0 _ L bs 1 hb W (HSL.out W hW) hL (by omega) hh
 generalize madeF (i0 g false) g zeroO 0 L bs 1=m at *
 have HMD:Hid (∀W,Below w.heap.size w W→Calls Tryz.prog 26 #[insV (i0 g false),frmV g,opV zeroO,.int .i64 0,.slice (some ad) L cap,.int .i64 1] W fun e w'=>e=.returned (.tuple #[insV m.1,.int .i64 m.2])∧Below W.heap.size W w'):=hMD
 clear hMD
 have hsz:(⟨g.how.toArray⟩:ByteArray).size≤100:=by unfold howOk at hh;simp only[Bool.and_eq_true,decide_eq_true_eq]at hh;show g.how.toArray.size≤100;simpa using hh.1
 have HHAS:=Lib.hid hhas
 clear hs hb hc n0 n1 n2 n3 hrow hL hl hBW c0 c1 hbd hh hhas
 go_enter Tryz.func10,Tryz.ntmps10
 go_wp2_with fail
 refine(HBH.out _ HBL0.out).mono ?_
 rintro e u1 ⟨rfl,nq,rfl⟩
 go_wp2_with fail
 refine(HFI.out _).mono ?_
 rintro e u2 ⟨rfl,hb2⟩
 replace hb2:Below ((w.alloc (.cells zeroA 34)).alloc (.cells #[.int .i64 0,.int .i64 0,.int .i64 0,.string ⟨#[]⟩,.int .i64 0] 63)).heap.size ((w.alloc (.cells zeroA 34)).alloc (.cells #[.int .i64 0,.int .i64 0,.int .i64 0,.string ⟨#[]⟩,.int .i64 0] 63)) u2:=below_undrewN hb2
 have hRu:=there_but (F:=fun _=>False) (But.of_below hb2) (fun h=>h) (by rw[HSZ0.out];omega) HR0.out
 have HFu:=Lib.hid (there_but (F:=fun _=>False) (But.of_below hb2) (fun h=>h) (by rw[HSZ0.out];omega) HF0.out)
 have HRu:=Lib.hid hRu
 have HBu:=Lib.hid (HBL0.out.trans (hb2.mono HBL0.out.size))
 clear hb2 hRu
 go_upto_region 38 with(refine store_frm rfl (.tmp 6) (.tmp 38) rfl (w.heap.size+1) rfl g rfl HFu.out ?_;intro Z hZ;have HF:=Lib.hid (show FInv w g Z by rw[hZ];exact⟨below_setCells (by omega) _ _ _ HBu.out,World.rangeAt_setCells_same _ _ _ _ HFu.out,World.there_setCells HRu.out _ _ _⟩);clear hZ)
 have hhas:=HHAS.out
 go_cut [13] (fun s13 wx=>∃k,s13=.pointer (some ⟨k,0,none⟩)∧w.heap.size+1<k∧wx.rangeAt k 0 (insL (i0 g false))∧FInv w g wx)
 case first=>
  refine wp_region_mind (γ:=Unit) (by kernel_rfl) (fun i=>i==11) (fun i=>if i=11 then 10 else i) (by kernel_rfl) () (fun u _=>FInv w g u) (fun u _ u' _=>SG (insL (i0 g false)) u u') (fun i v x u _=>SV w g false i v x u) sv_stays (fun u _=>sg_refl u) HF.out.drawn ?_ ?_
  ·intro i o b u gg ho hinv hsz hbase hdep
   have hi:i<12:=(Array.getElem?_eq_some_iff.1 ho).1
   have b6:b.tmps.getD 6 undef=.pointer (some ⟨w.heap.size+1,0,none⟩):=hbase 6 (by kernel_rfl)
   have b8:b.tmps.getD 8 undef=.bool false:=hbase 8 (by kernel_rfl)
   obtain⟨f0,f1,f2,f3⟩:=frm_cells hinv
   clear hbase hsz
   have h12:i=0∨i=1∨i=2∨i=3∨i=4∨i=5∨i=6∨i=7∨i=8∨i=9∨i=10∨i=11:=by omega
   rcases h12 with rfl|rfl|rfl|rfl|rfl|rfl|rfl|rfl|rfl|rfl|rfl|rfl
   ·cases ho
    exact wp_val (by simp[execOp,Act.eval,b6,go_sem]<;>rfl) ⟨_,(),rfl,hinv,sg_refl _,rfl⟩
   ·cases ho
    have d:b.tmps.getD 111 undef=.pointer (some ⟨w.heap.size+1,0,none⟩):=hdep 0 (by kernel_rfl)
    exact wp_val (by simp[execOp,Act.eval,d,go_sem,f0]<;>rfl) ⟨_,(),rfl,hinv,sg_refl _,rfl⟩
   ·cases ho
    exact wp_val (by simp[execOp,Act.eval,b6,go_sem]<;>rfl) ⟨_,(),rfl,hinv,sg_refl _,rfl⟩
   ·cases ho
    have d:b.tmps.getD 113 undef=.pointer (some ⟨w.heap.size+1,1,none⟩):=hdep 2 (by kernel_rfl)
    exact wp_val (by simp[execOp,Act.eval,d,go_sem,f1]<;>rfl) ⟨_,(),rfl,hinv,sg_refl _,rfl⟩
   ·cases ho
    exact wp_val (by simp[execOp,Act.eval,b6,go_sem]<;>rfl) ⟨_,(),rfl,hinv,sg_refl _,rfl⟩
   ·cases ho
    have d:b.tmps.getD 115 undef=.pointer (some ⟨w.heap.size+1,2,none⟩):=hdep 4 (by kernel_rfl)
    exact wp_val (by simp[execOp,Act.eval,d,go_sem,f2]<;>rfl) ⟨_,(),rfl,hinv,sg_refl _,rfl⟩
   ·cases ho
    refine wp_call (by simp[execOp,go_sem]<;>rfl) ((rnone_any u).mono ?_)
    rintro e u' ⟨rfl,rfl⟩
    exact⟨_,rfl,_,(),rfl,hinv.ext (below_last (Below.refl _ _) _),sg_below (below_last (Below.refl _ _) _),rfl⟩
   ·cases ho
    refine wp_call (by simp[execOp,go_sem]<;>rfl) ((rnone_any u).mono ?_)
    rintro e u' ⟨rfl,rfl⟩
    exact⟨_,rfl,_,(),rfl,hinv.ext (below_last (Below.refl _ _) _),sg_below (below_last (Below.refl _ _) _),rfl⟩
   ·cases ho
    exact wp_val (by simp[execOp,Act.eval,b8]<;>rfl) ⟨_,(),rfl,hinv,sg_refl _,rfl⟩
   ·cases ho
    have d1:b.tmps.getD 112 undef=.int .i64 g.op:=hdep 1 (by kernel_rfl)
    have d3:b.tmps.getD 114 undef=.int .i64 g.cond:=hdep 3 (by kernel_rfl)
    have d5:b.tmps.getD 116 undef=.int .i64 g.size:=hdep 5 (by kernel_rfl)
    have d6:b.tmps.getD 117 undef=.agg #[.int .i64 0,.int .i64 0,.int .i64 (-1),.int .i64 (-1),.int .i64 1,.int .u32 0]:=hdep 6 (by kernel_rfl)
    have d7:b.tmps.getD 118 undef=.agg #[.int .i64 0,.int .i64 0,.int .i64 (-1),.int .i64 (-1),.int .i64 1,.int .u32 0]:=hdep 7 (by kernel_rfl)
    have d8:b.tmps.getD 119 undef=.bool false:=hdep 8 (by kernel_rfl)
    rw[Array.getD_eq_getD_getElem?]at d1 d3 d5 d6 d7 d8
    exact wp_val (by simp[execOp,Act.eval,d1,d3,d5,d6,d7,d8,go_sem]<;>rfl) ⟨_,(),rfl,hinv,sg_refl _,rfl⟩
   ·cases ho
    exact wp_val (u':=u.alloc (.cells zeroA 34)) (v:=.pointer (some ⟨u.heap.size,0,none⟩)) (by simp[execOp,go_sem]<;>rfl) ⟨_,(),rfl,hinv.ext (below_last (Below.refl _ _) _),sg_below (below_last (Below.refl _ _) _),u.heap.size,rfl,hinv.lt,there_alloc_new u _ _ 18 (by decide)⟩
   ·cases ho
    have d9:b.tmps.getD 120 undef=.agg (insL (i0 g false)).toArray:=hdep 9 (by kernel_rfl)
    obtain⟨k,hk1,hk2,hk3⟩:=hdep 10 (by kernel_rfl)
    have d10:b.tmps.getD 13 undef=.pointer (some ⟨k,0,none⟩):=hk1
    refine wp_store_mid 34 (.tmp 13) (.tmp 120) rfl k 0 (insL (i0 g false)).toArray d10 d9 hk3 info_ins (ins_one _) ⟨_,(),rfl,hinv.put k 0 hk2 _,sg_put hk3,k,hk1,hk2,World.rangeAt_setCells_same u k 0 _ hk3⟩
  ·intro ff u gg hinv hVV
   obtain⟨k,hk1,hk2,hk3⟩:=hVV 11 (by decide)
   have h13:ff 10=.pointer (some ⟨k,0,none⟩):=hk1
   simp only[List.size_toArray,List.length_cons,List.length_nil,Nat.reduceAdd,laid,List.getElem?_toArray,List.getElem?_cons_zero,List.getElem?_cons_succ,Option.bind_some,Act.put,List.setIfInBounds_toArray,List.set_cons_zero,List.set_cons_succ]
   go_wp2_with fail
   go_meet
   case rel=>exact⟨k,by first|rfl|exact h13,hk2,hk3,hinv⟩
 case rest=>
  obtain⟨k,rfl,hk2,hk3,hf3⟩:=hcut
  have hkl:k<wc.heap.size:=cell_lt (hk3 0 _ rfl)
  have HK:=Lib.hid hk3
  have HF3:=Lib.hid hf3
  obtain⟨f0,f1,f2,f3⟩:=frm_cells hf3
  have hfl:=hf3.lt
  clear hk3 hf3
  have hth:=there_alloc_new wc #[.int .i64 0,.int .i64 0,.int .i64 0,.int .i64 0,.int .i64 0,.int .u32 0] 32 6 (by decide)
  have hfa:=HF3.out.ext (below_last (Below.refl _ _) (.cells #[.int .i64 0,.int .i64 0,.int .i64 0,.int .i64 0,.int .i64 0,.int .u32 0] 32))
  have hka:=range_alloc (.cells #[.int .i64 0,.int .i64 0,.int .i64 0,.int .i64 0,.int .i64 0,.int .u32 0] 32) HK.out hkl
  have HHR:=Lib.hid (rhasrm_any ⟨g.how.toArray⟩ hsz)
  have HOX:=Lib.hid (show(wc.alloc (.cells #[.int .i64 0,.int .i64 0,.int .i64 0,.int .i64 0,.int .i64 0,.int .u32 0] 32)).rangeAt wc.heap.size 0 (opL' zeroO)from range_block (heap_top0 wc (.cells #[.int .i64 0,.int .i64 0,.int .i64 0,.int .i64 0,.int .i64 0,.int .u32 0] 32) _ rfl))
  have HKX:=Lib.hid hka
  have HFX:=Lib.hid hfa
  clear hth hfa hka
  go_wp2_with fail
  refine(HHR.out _).mono ?_
  rintro e w2 ⟨rfl,rfl⟩
  rw[show hasF (⟨g.how.toArray⟩:ByteArray).data.toList=false from hhas]
  clear hhas
  go_wp2_with (first
   |(refine wpList_load_mid rfl 34 (.tmp 13) rfl k 0 rfl (insL (i0 g false)) _ HKX.out Tryz.underlying34 rfl info_ins ?_)
   |(refine wpList_load_mid rfl 63 (.tmp 6) rfl (w.heap.size+1) 0 rfl (frmL g) _ HFX.out.frm Tryz.underlying63 rfl info_frm ?_)
   |(refine wpList_load_mid rfl 32 (.tmp 14) rfl wc.heap.size 0 rfl (opL' zeroO) _ HOX.out Tryz.underlying32 rfl info_opd1 ?_))
  refine(HMD.out _ HFX.out.below).mono ?_
  rintro e w3 ⟨rfl,hb3⟩
  have HB3:=Lib.hid (HFX.out.below.trans (hb3.mono HFX.out.below.size))
  have HR3:=Lib.hid (HFX.out.ext hb3).res
  clear hb3
  go_wp2_with (refine store_ins rfl (.tmp 2) (.tmp 147) rfl w.heap.size rfl m.1 rfl HR3.out ?_;intro Y hY hl;have HY:=Lib.hid hY;have HL:=Lib.hid hl;clear hY hl)
  refine bodyPost_ret (results_cell_tmp rfl rfl rfl HL.out) rfl ⟨by rfl,?_⟩
  rw[HY.out]
  exact below_setCells (Nat.le_refl _) _ _ _ HB3.out
theorem rone_e_rm(v:Value)(L:Nat)(bs:Nat→Int)(hb:∀i,0≤bs i∧bs i<256)(hL:L≤1099511627776)(w:World)(hs:Slc .u8 w v L bs)(n0:bs 0≠243)(n1:bs 0≠15)(n2:bs 0≠242)(n3:bs 0≠102)(hL2:1≤L)(g:Frm)(hrow:firstF (bs 0) (behF L bs 1) (behM L bs 1)=(g,true,false))(hh:howOk g.how=true)(hhas:hasF g.how=true)(o:Opd)(r:Int)(n:Nat)(hrm:rmF (L-1) (fun i=>bs (1+i))=some (o,r,n)):
  Calls Tryz.prog 10 #[v] w fun e w'=>e=.returned (insR (madeF (i0 g false) g o r L bs (1+n)))∧Below w.heap.size w w':=by
 rcases id hs with⟨_,h00⟩|⟨ad,cap,rfl,hl,hc⟩
 ·omega
 have hA0:w.cell? ad=some (.int .u8 (bs 0)):=by simpa[Addr.add]using hc 0 (by omega)
 have hA1:∀o,(w.alloc o).cell? ad=some (.int .u8 (bs 0)):=fun o=>cell_alloc hA0
 have jx0:(0:Int)<(L:Int):=by omega
 have e0:((L:Int)==0)=false:=by simp;omega
 have e0':(L==0)=false:=by simp;omega
 have hBW:∀W,Below w.heap.size w W→Slc .u8 W (.slice (some ad) L cap) L bs:=fun W hW=>hs.below hW
 have HSL:=Lib.hid hBW
 obtain⟨hbl0,hsz0,hR0,hF0⟩:=ini0 w
 have HBL0:=Lib.hid hbl0
 have HSZ0:=Lib.hid hsz0
 have HR0:=Lib.hid hR0
 have HF0:=Lib.hid hF0
 clear hbl0 hsz0 hR0 hF0
 obtain⟨c0,c1⟩:=hb 0
 have hbd:=behF_bd L bs 1
 have HFI:=first_any (bs 0) (behF L bs 1) (behM L bs 1) c0 c1 hbd.1 hbd.2
 rw[hrow]at HFI
 have HFI:Hid (∀W,Calls Tryz.prog 20 #[.int .u8 (bs 0),.int .i64 (behF L bs 1),.bool (behM L bs 1)] W fun e w'=>e=.returned (.tuple #[frmV g,.bool true,.bool false])∧Below W.heap.size W w'):=HFI
 have HBH:=Lib.hid (fun W hW=>rbehind_any _ L bs hb 1 W (HSL.out W hW))
 have q1:(bs 0==243)=false:=by simpa using n0
 have q2:(bs 0==15)=false:=by simpa using n1
 have q3:(bs 0==242)=false:=by simpa using n2
 have q4:(bs 0==102)=false:=by simpa using n3
 generalize behF L bs 1=rgb at *
 generalize behM L bs 1=mdb at *
 have hnl:=(rm_three hrm).1
 have hMD:∀W,Below w.heap.size w W→Calls Tryz.prog 26 #[insV (i0 g false),frmV g,opV o,.int .i64 r,.slice (some ad) L cap,.int .i64 (1+(n:Int))] W fun e w'=>e=.returned (insR (madeF (i0 g false) g o r L bs (1+n)))∧Below W.heap.size W w':=fun W hW=>rmade_ok (i0 g false) g o r _ L bs (1+n) hb W (HSL.out W hW) hL (by omega) hh
 generalize madeF (i0 g false) g o r L bs (1+n)=m at *
 have HMD:Hid (∀W,Below w.heap.size w W→Calls Tryz.prog 26 #[insV (i0 g false),frmV g,opV o,.int .i64 r,.slice (some ad) L cap,.int .i64 (1+(n:Int))] W fun e w'=>e=.returned (.tuple #[insV m.1,.int .i64 m.2])∧Below W.heap.size W w'):=hMD
 clear hMD
 have hsz:(⟨g.how.toArray⟩:ByteArray).size≤100:=by unfold howOk at hh;simp only[Bool.and_eq_true,decide_eq_true_eq]at hh;show g.how.toArray.size≤100;simpa using hh.1
 have hRMC:∀W,Below w.heap.size w W→Calls Tryz.prog 25 #[.slice (some (cutA ad cap 1)) (L-1) (cap-1)] W fun e w'=>e=.returned (.tuple #[.agg #[.int .i64 o.kind,.int .i64 o.reg,.int .i64 o.base,.int .i64 o.index,.int .i64 o.scale,.int .u32 o.disp],.int .i64 r,.int .i64 n,.int .i64 0])∧Below W.heap.size W w':=fun W hW=>by
  rw[←rmV_some hrm]
  exact rm_any _ (L-1) _ (fun i=>hb (1+i)) W ((slc_tail hc hl 1 (by omega)).below hW) (by unfold maxLen;omega)
 have HRM:=Lib.hid hRMC
 clear hRMC
 have hsl:=fun W=>slice_tail ad L cap 1 1 rfl (by omega) W
 have ia:(1:Int)≤(L:Int):=by omega
 have hni:(1:Int)+(n:Int)≤(L:Int):=by omega
 have hL2b:(L:Int)≤1099511627776:=by omega
 have HHAS:=Lib.hid hhas
 clear hs hb hc n0 n1 n2 n3 hrow hL hl hBW c0 c1 hbd hrm hnl hh hhas
 go_enter Tryz.func10,Tryz.ntmps10
 go_wp2_with fail
 refine(HBH.out _ HBL0.out).mono ?_
 rintro e u1 ⟨rfl,nq,rfl⟩
 go_wp2_with fail
 refine(HFI.out _).mono ?_
 rintro e u2 ⟨rfl,hb2⟩
 replace hb2:Below ((w.alloc (.cells zeroA 34)).alloc (.cells #[.int .i64 0,.int .i64 0,.int .i64 0,.string ⟨#[]⟩,.int .i64 0] 63)).heap.size ((w.alloc (.cells zeroA 34)).alloc (.cells #[.int .i64 0,.int .i64 0,.int .i64 0,.string ⟨#[]⟩,.int .i64 0] 63)) u2:=below_undrewN hb2
 have hRu:=there_but (F:=fun _=>False) (But.of_below hb2) (fun h=>h) (by rw[HSZ0.out];omega) HR0.out
 have HFu:=Lib.hid (there_but (F:=fun _=>False) (But.of_below hb2) (fun h=>h) (by rw[HSZ0.out];omega) HF0.out)
 have HRu:=Lib.hid hRu
 have HBu:=Lib.hid (HBL0.out.trans (hb2.mono HBL0.out.size))
 clear hb2 hRu
 go_upto_region 38 with(refine store_frm rfl (.tmp 6) (.tmp 38) rfl (w.heap.size+1) rfl g rfl HFu.out ?_;intro Z hZ;have HF:=Lib.hid (show FInv w g Z by rw[hZ];exact⟨below_setCells (by omega) _ _ _ HBu.out,World.rangeAt_setCells_same _ _ _ _ HFu.out,World.there_setCells HRu.out _ _ _⟩);clear hZ)
 have hhas:=HHAS.out
 go_cut [13] (fun s13 wx=>∃k,s13=.pointer (some ⟨k,0,none⟩)∧w.heap.size+1<k∧wx.rangeAt k 0 (insL (i0 g false))∧FInv w g wx)
 case first=>
  refine wp_region_mind (γ:=Unit) (by kernel_rfl) (fun i=>i==11) (fun i=>if i=11 then 10 else i) (by kernel_rfl) () (fun u _=>FInv w g u) (fun u _ u' _=>SG (insL (i0 g false)) u u') (fun i v x u _=>SV w g false i v x u) sv_stays (fun u _=>sg_refl u) HF.out.drawn ?_ ?_
  ·intro i o b u gg ho hinv hsz hbase hdep
   have hi:i<12:=(Array.getElem?_eq_some_iff.1 ho).1
   have b6:b.tmps.getD 6 undef=.pointer (some ⟨w.heap.size+1,0,none⟩):=hbase 6 (by kernel_rfl)
   have b8:b.tmps.getD 8 undef=.bool false:=hbase 8 (by kernel_rfl)
   obtain⟨f0,f1,f2,f3⟩:=frm_cells hinv
   clear hbase hsz
   have h12:i=0∨i=1∨i=2∨i=3∨i=4∨i=5∨i=6∨i=7∨i=8∨i=9∨i=10∨i=11:=by omega
   rcases h12 with rfl|rfl|rfl|rfl|rfl|rfl|rfl|rfl|rfl|rfl|rfl|rfl
   ·cases ho
    exact wp_val (by simp[execOp,Act.eval,b6,go_sem]<;>rfl) ⟨_,(),rfl,hinv,sg_refl _,rfl⟩
   ·cases ho
    have d:b.tmps.getD 111 undef=.pointer (some ⟨w.heap.size+1,0,none⟩):=hdep 0 (by kernel_rfl)
    exact wp_val (by simp[execOp,Act.eval,d,go_sem,f0]<;>rfl) ⟨_,(),rfl,hinv,sg_refl _,rfl⟩
   ·cases ho
    exact wp_val (by simp[execOp,Act.eval,b6,go_sem]<;>rfl) ⟨_,(),rfl,hinv,sg_refl _,rfl⟩
   ·cases ho
    have d:b.tmps.getD 113 undef=.pointer (some ⟨w.heap.size+1,1,none⟩):=hdep 2 (by kernel_rfl)
    exact wp_val (by simp[execOp,Act.eval,d,go_sem,f1]<;>rfl) ⟨_,(),rfl,hinv,sg_refl _,rfl⟩
   ·cases ho
    exact wp_val (by simp[execOp,Act.eval,b6,go_sem]<;>rfl) ⟨_,(),rfl,hinv,sg_refl _,rfl⟩
   ·cases ho
    have d:b.tmps.getD 115 undef=.pointer (some ⟨w.heap.size+1,2,none⟩):=hdep 4 (by kernel_rfl)
    exact wp_val (by simp[execOp,Act.eval,d,go_sem,f2]<;>rfl) ⟨_,(),rfl,hinv,sg_refl _,rfl⟩
   ·cases ho
    refine wp_call (by simp[execOp,go_sem]<;>rfl) ((rnone_any u).mono ?_)
    rintro e u' ⟨rfl,rfl⟩
    exact⟨_,rfl,_,(),rfl,hinv.ext (below_last (Below.refl _ _) _),sg_below (below_last (Below.refl _ _) _),rfl⟩
   ·cases ho
    refine wp_call (by simp[execOp,go_sem]<;>rfl) ((rnone_any u).mono ?_)
    rintro e u' ⟨rfl,rfl⟩
    exact⟨_,rfl,_,(),rfl,hinv.ext (below_last (Below.refl _ _) _),sg_below (below_last (Below.refl _ _) _),rfl⟩
   ·cases ho
    exact wp_val (by simp[execOp,Act.eval,b8]<;>rfl) ⟨_,(),rfl,hinv,sg_refl _,rfl⟩
   ·cases ho
    have d1:b.tmps.getD 112 undef=.int .i64 g.op:=hdep 1 (by kernel_rfl)
    have d3:b.tmps.getD 114 undef=.int .i64 g.cond:=hdep 3 (by kernel_rfl)
    have d5:b.tmps.getD 116 undef=.int .i64 g.size:=hdep 5 (by kernel_rfl)
    have d6:b.tmps.getD 117 undef=.agg #[.int .i64 0,.int .i64 0,.int .i64 (-1),.int .i64 (-1),.int .i64 1,.int .u32 0]:=hdep 6 (by kernel_rfl)
    have d7:b.tmps.getD 118 undef=.agg #[.int .i64 0,.int .i64 0,.int .i64 (-1),.int .i64 (-1),.int .i64 1,.int .u32 0]:=hdep 7 (by kernel_rfl)
    have d8:b.tmps.getD 119 undef=.bool false:=hdep 8 (by kernel_rfl)
    rw[Array.getD_eq_getD_getElem?]at d1 d3 d5 d6 d7 d8
    exact wp_val (by simp[execOp,Act.eval,d1,d3,d5,d6,d7,d8,go_sem]<;>rfl) ⟨_,(),rfl,hinv,sg_refl _,rfl⟩
   ·cases ho
    exact wp_val (u':=u.alloc (.cells zeroA 34)) (v:=.pointer (some ⟨u.heap.size,0,none⟩)) (by simp[execOp,go_sem]<;>rfl) ⟨_,(),rfl,hinv.ext (below_last (Below.refl _ _) _),sg_below (below_last (Below.refl _ _) _),u.heap.size,rfl,hinv.lt,there_alloc_new u _ _ 18 (by decide)⟩
   ·cases ho
    have d9:b.tmps.getD 120 undef=.agg (insL (i0 g false)).toArray:=hdep 9 (by kernel_rfl)
    obtain⟨k,hk1,hk2,hk3⟩:=hdep 10 (by kernel_rfl)
    have d10:b.tmps.getD 13 undef=.pointer (some ⟨k,0,none⟩):=hk1
    refine wp_store_mid 34 (.tmp 13) (.tmp 120) rfl k 0 (insL (i0 g false)).toArray d10 d9 hk3 info_ins (ins_one _) ⟨_,(),rfl,hinv.put k 0 hk2 _,sg_put hk3,k,hk1,hk2,World.rangeAt_setCells_same u k 0 _ hk3⟩
  ·intro ff u gg hinv hVV
   obtain⟨k,hk1,hk2,hk3⟩:=hVV 11 (by decide)
   have h13:ff 10=.pointer (some ⟨k,0,none⟩):=hk1
   simp only[List.size_toArray,List.length_cons,List.length_nil,Nat.reduceAdd,laid,List.getElem?_toArray,List.getElem?_cons_zero,List.getElem?_cons_succ,Option.bind_some,Act.put,List.setIfInBounds_toArray,List.set_cons_zero,List.set_cons_succ]
   go_wp2_with fail
   go_meet
   case rel=>exact⟨k,by first|rfl|exact h13,hk2,hk3,hinv⟩
 case rest=>
  obtain⟨k,rfl,hk2,hk3,hf3⟩:=hcut
  have hkl:k<wc.heap.size:=cell_lt (hk3 0 _ rfl)
  have HK:=Lib.hid hk3
  have HF3:=Lib.hid hf3
  obtain⟨f0,f1,f2,f3⟩:=frm_cells hf3
  have hfl:=hf3.lt
  clear hk3 hf3
  have hth:=there_alloc_new wc #[.int .i64 0,.int .i64 0,.int .i64 0,.int .i64 0,.int .i64 0,.int .u32 0] 32 6 (by decide)
  have hfa:=HF3.out.ext (below_last (Below.refl _ _) (.cells #[.int .i64 0,.int .i64 0,.int .i64 0,.int .i64 0,.int .i64 0,.int .u32 0] 32))
  have hka:=range_alloc (.cells #[.int .i64 0,.int .i64 0,.int .i64 0,.int .i64 0,.int .i64 0,.int .u32 0] 32) HK.out hkl
  have HHR:=Lib.hid (rhasrm_any ⟨g.how.toArray⟩ hsz)
  have HTO:=Lib.hid hth
  have HKA:=Lib.hid hka
  have HFA:=Lib.hid hfa
  clear hth hfa hka
  go_wp2_with fail
  refine(HHR.out _).mono ?_
  rintro e w2 ⟨rfl,rfl⟩
  rw[show hasF (⟨g.how.toArray⟩:ByteArray).data.toList=true from hhas]
  clear hhas
  go_wp2_with fail
  refine(HRM.out _ HFA.out.below).mono ?_
  rintro e w2 ⟨rfl,hb2⟩
  have HTO2:=Lib.hid (there_but (F:=fun _=>False) (But.of_below hb2) (fun h=>h) (by simp) HTO.out)
  have HKA2:=Lib.hid (range_but (F:=fun _=>False) (But.of_below hb2) (fun h=>h) HKA.out)
  have HFA2:=Lib.hid (HFA.out.ext hb2)
  have hws:wc.heap.size<w2.heap.size:=by have:=hb2.size;simp at this;omega
  clear hb2
  go_wp2_with (first
   |(refine store_mid rfl 32 (.tmp 14) (.tmp 129) rfl wc.heap.size 0 rfl (opL' o) rfl info_opd1 (opd_one o) HTO2.out ?_;intro Z1 hZ1;have HFX:=Lib.hid (show FInv w g Z1 by rw[hZ1];exact HFA2.out.put _ _ hfl _);have HKX:=Lib.hid (show Z1.rangeAt k 0 (insL (i0 g false))by rw[hZ1];exact World.rangeAt_setCells_apart HKA2.out _ _ _ (.inl (by omega)));have HOX:=Lib.hid (show Z1.rangeAt wc.heap.size 0 (opL' o)by rw[hZ1];exact World.rangeAt_setCells_same _ _ _ _ HTO2.out);clear hZ1)
   |(refine wpList_load_mid rfl 34 (.tmp 13) rfl k 0 rfl (insL (i0 g false)) _ HKX.out Tryz.underlying34 rfl info_ins ?_)
   |(refine wpList_load_mid rfl 63 (.tmp 6) rfl (w.heap.size+1) 0 rfl (frmL g) _ HFX.out.frm Tryz.underlying63 rfl info_frm ?_)
   |(refine wpList_load_mid rfl 32 (.tmp 14) rfl wc.heap.size 0 rfl (opL' o) _ HOX.out Tryz.underlying32 rfl info_opd1 ?_))
  refine(HMD.out _ HFX.out.below).mono ?_
  rintro e w3 ⟨rfl,hb3⟩
  have HB3:=Lib.hid (HFX.out.below.trans (hb3.mono HFX.out.below.size))
  have HR3:=Lib.hid (HFX.out.ext hb3).res
  clear hb3
  go_wp2_with (refine store_ins rfl (.tmp 2) (.tmp 147) rfl w.heap.size rfl m.1 rfl HR3.out ?_;intro Y hY hl;have HY:=Lib.hid hY;have HL:=Lib.hid hl;clear hY hl)
  refine bodyPost_ret (results_cell_tmp rfl rfl rfl HL.out) rfl ⟨by rfl,?_⟩
  rw[HY.out]
  exact below_setCells (Nat.le_refl _) _ _ _ HB3.out
theorem rone_e_short(v:Value)(L:Nat)(bs:Nat→Int)(hb:∀i,0≤bs i∧bs i<256)(hL:L≤1099511627776)(w:World)(hs:Slc .u8 w v L bs)(n0:bs 0≠243)(n1:bs 0≠15)(n2:bs 0≠242)(n3:bs 0≠102)(hL2:1≤L)(g:Frm)(hrow:firstF (bs 0) (behF L bs 1) (behM L bs 1)=(g,true,false))(hh:howOk g.how=true)(hhas:hasF g.how=true)(hrm:rmF (L-1) (fun i=>bs (1+i))=none):
  Calls Tryz.prog 10 #[v] w fun e w'=>e=.returned (insR (zeroI,21))∧Below w.heap.size w w':=by
 rcases id hs with⟨_,h00⟩|⟨ad,cap,rfl,hl,hc⟩
 ·omega
 have hA0:w.cell? ad=some (.int .u8 (bs 0)):=by simpa[Addr.add]using hc 0 (by omega)
 have hA1:∀o,(w.alloc o).cell? ad=some (.int .u8 (bs 0)):=fun o=>cell_alloc hA0
 have jx0:(0:Int)<(L:Int):=by omega
 have e0:((L:Int)==0)=false:=by simp;omega
 have e0':(L==0)=false:=by simp;omega
 have hBW:∀W,Below w.heap.size w W→Slc .u8 W (.slice (some ad) L cap) L bs:=fun W hW=>hs.below hW
 have HSL:=Lib.hid hBW
 obtain⟨hbl0,hsz0,hR0,hF0⟩:=ini0 w
 have HBL0:=Lib.hid hbl0
 have HSZ0:=Lib.hid hsz0
 have HR0:=Lib.hid hR0
 have HF0:=Lib.hid hF0
 clear hbl0 hsz0 hR0 hF0
 obtain⟨c0,c1⟩:=hb 0
 have hbd:=behF_bd L bs 1
 have HFI:=first_any (bs 0) (behF L bs 1) (behM L bs 1) c0 c1 hbd.1 hbd.2
 rw[hrow]at HFI
 have HFI:Hid (∀W,Calls Tryz.prog 20 #[.int .u8 (bs 0),.int .i64 (behF L bs 1),.bool (behM L bs 1)] W fun e w'=>e=.returned (.tuple #[frmV g,.bool true,.bool false])∧Below W.heap.size W w'):=HFI
 have HBH:=Lib.hid (fun W hW=>rbehind_any _ L bs hb 1 W (HSL.out W hW))
 have q1:(bs 0==243)=false:=by simpa using n0
 have q2:(bs 0==15)=false:=by simpa using n1
 have q3:(bs 0==242)=false:=by simpa using n2
 have q4:(bs 0==102)=false:=by simpa using n3
 generalize behF L bs 1=rgb at *
 generalize behM L bs 1=mdb at *
 have hsz:(⟨g.how.toArray⟩:ByteArray).size≤100:=by unfold howOk at hh;simp only[Bool.and_eq_true,decide_eq_true_eq]at hh;show g.how.toArray.size≤100;simpa using hh.1
 have hRMC:∀W,Below w.heap.size w W→Calls Tryz.prog 25 #[.slice (some (cutA ad cap 1)) (L-1) (cap-1)] W fun e w'=>e=.returned (.tuple #[.agg #[.int .i64 0,.int .i64 0,.int .i64 0,.int .i64 0,.int .i64 0,.int .u32 0],.int .i64 0,.int .i64 0,.int .i64 21])∧Below W.heap.size W w':=fun W hW=>by
  rw[←rmV_none hrm]
  exact rm_any _ (L-1) _ (fun i=>hb (1+i)) W ((slc_tail hc hl 1 (by omega)).below hW) (by unfold maxLen;omega)
 have HRM:=Lib.hid hRMC
 clear hRMC
 have hsl:=fun W=>slice_tail ad L cap 1 1 rfl (by omega) W
 have ia:(1:Int)≤(L:Int):=by omega
 have HHAS:=Lib.hid hhas
 clear hs hb hc n0 n1 n2 n3 hrow hL hl hBW c0 c1 hbd hrm hh hhas
 go_enter Tryz.func10,Tryz.ntmps10
 go_wp2_with fail
 refine(HBH.out _ HBL0.out).mono ?_
 rintro e u1 ⟨rfl,nq,rfl⟩
 go_wp2_with fail
 refine(HFI.out _).mono ?_
 rintro e u2 ⟨rfl,hb2⟩
 replace hb2:Below ((w.alloc (.cells zeroA 34)).alloc (.cells #[.int .i64 0,.int .i64 0,.int .i64 0,.string ⟨#[]⟩,.int .i64 0] 63)).heap.size ((w.alloc (.cells zeroA 34)).alloc (.cells #[.int .i64 0,.int .i64 0,.int .i64 0,.string ⟨#[]⟩,.int .i64 0] 63)) u2:=below_undrewN hb2
 have hRu:=there_but (F:=fun _=>False) (But.of_below hb2) (fun h=>h) (by rw[HSZ0.out];omega) HR0.out
 have HFu:=Lib.hid (there_but (F:=fun _=>False) (But.of_below hb2) (fun h=>h) (by rw[HSZ0.out];omega) HF0.out)
 have HRu:=Lib.hid hRu
 have HBu:=Lib.hid (HBL0.out.trans (hb2.mono HBL0.out.size))
 clear hb2 hRu
 go_upto_region 38 with(refine store_frm rfl (.tmp 6) (.tmp 38) rfl (w.heap.size+1) rfl g rfl HFu.out ?_;intro Z hZ;have HF:=Lib.hid (show FInv w g Z by rw[hZ];exact⟨below_setCells (by omega) _ _ _ HBu.out,World.rangeAt_setCells_same _ _ _ _ HFu.out,World.there_setCells HRu.out _ _ _⟩);clear hZ)
 have hhas:=HHAS.out
 go_cut [13] (fun s13 wx=>∃k,s13=.pointer (some ⟨k,0,none⟩)∧w.heap.size+1<k∧wx.rangeAt k 0 (insL (i0 g false))∧FInv w g wx)
 case first=>
  refine wp_region_mind (γ:=Unit) (by kernel_rfl) (fun i=>i==11) (fun i=>if i=11 then 10 else i) (by kernel_rfl) () (fun u _=>FInv w g u) (fun u _ u' _=>SG (insL (i0 g false)) u u') (fun i v x u _=>SV w g false i v x u) sv_stays (fun u _=>sg_refl u) HF.out.drawn ?_ ?_
  ·intro i o b u gg ho hinv hsz hbase hdep
   have hi:i<12:=(Array.getElem?_eq_some_iff.1 ho).1
   have b6:b.tmps.getD 6 undef=.pointer (some ⟨w.heap.size+1,0,none⟩):=hbase 6 (by kernel_rfl)
   have b8:b.tmps.getD 8 undef=.bool false:=hbase 8 (by kernel_rfl)
   obtain⟨f0,f1,f2,f3⟩:=frm_cells hinv
   clear hbase hsz
   have h12:i=0∨i=1∨i=2∨i=3∨i=4∨i=5∨i=6∨i=7∨i=8∨i=9∨i=10∨i=11:=by omega
   rcases h12 with rfl|rfl|rfl|rfl|rfl|rfl|rfl|rfl|rfl|rfl|rfl|rfl
   ·cases ho
    exact wp_val (by simp[execOp,Act.eval,b6,go_sem]<;>rfl) ⟨_,(),rfl,hinv,sg_refl _,rfl⟩
   ·cases ho
    have d:b.tmps.getD 111 undef=.pointer (some ⟨w.heap.size+1,0,none⟩):=hdep 0 (by kernel_rfl)
    exact wp_val (by simp[execOp,Act.eval,d,go_sem,f0]<;>rfl) ⟨_,(),rfl,hinv,sg_refl _,rfl⟩
   ·cases ho
    exact wp_val (by simp[execOp,Act.eval,b6,go_sem]<;>rfl) ⟨_,(),rfl,hinv,sg_refl _,rfl⟩
   ·cases ho
    have d:b.tmps.getD 113 undef=.pointer (some ⟨w.heap.size+1,1,none⟩):=hdep 2 (by kernel_rfl)
    exact wp_val (by simp[execOp,Act.eval,d,go_sem,f1]<;>rfl) ⟨_,(),rfl,hinv,sg_refl _,rfl⟩
   ·cases ho
    exact wp_val (by simp[execOp,Act.eval,b6,go_sem]<;>rfl) ⟨_,(),rfl,hinv,sg_refl _,rfl⟩
   ·cases ho
    have d:b.tmps.getD 115 undef=.pointer (some ⟨w.heap.size+1,2,none⟩):=hdep 4 (by kernel_rfl)
    exact wp_val (by simp[execOp,Act.eval,d,go_sem,f2]<;>rfl) ⟨_,(),rfl,hinv,sg_refl _,rfl⟩
   ·cases ho
    refine wp_call (by simp[execOp,go_sem]<;>rfl) ((rnone_any u).mono ?_)
    rintro e u' ⟨rfl,rfl⟩
    exact⟨_,rfl,_,(),rfl,hinv.ext (below_last (Below.refl _ _) _),sg_below (below_last (Below.refl _ _) _),rfl⟩
   ·cases ho
    refine wp_call (by simp[execOp,go_sem]<;>rfl) ((rnone_any u).mono ?_)
    rintro e u' ⟨rfl,rfl⟩
    exact⟨_,rfl,_,(),rfl,hinv.ext (below_last (Below.refl _ _) _),sg_below (below_last (Below.refl _ _) _),rfl⟩
   ·cases ho
    exact wp_val (by simp[execOp,Act.eval,b8]<;>rfl) ⟨_,(),rfl,hinv,sg_refl _,rfl⟩
   ·cases ho
    have d1:b.tmps.getD 112 undef=.int .i64 g.op:=hdep 1 (by kernel_rfl)
    have d3:b.tmps.getD 114 undef=.int .i64 g.cond:=hdep 3 (by kernel_rfl)
    have d5:b.tmps.getD 116 undef=.int .i64 g.size:=hdep 5 (by kernel_rfl)
    have d6:b.tmps.getD 117 undef=.agg #[.int .i64 0,.int .i64 0,.int .i64 (-1),.int .i64 (-1),.int .i64 1,.int .u32 0]:=hdep 6 (by kernel_rfl)
    have d7:b.tmps.getD 118 undef=.agg #[.int .i64 0,.int .i64 0,.int .i64 (-1),.int .i64 (-1),.int .i64 1,.int .u32 0]:=hdep 7 (by kernel_rfl)
    have d8:b.tmps.getD 119 undef=.bool false:=hdep 8 (by kernel_rfl)
    rw[Array.getD_eq_getD_getElem?]at d1 d3 d5 d6 d7 d8
    exact wp_val (by simp[execOp,Act.eval,d1,d3,d5,d6,d7,d8,go_sem]<;>rfl) ⟨_,(),rfl,hinv,sg_refl _,rfl⟩
   ·cases ho
    exact wp_val (u':=u.alloc (.cells zeroA 34)) (v:=.pointer (some ⟨u.heap.size,0,none⟩)) (by simp[execOp,go_sem]<;>rfl) ⟨_,(),rfl,hinv.ext (below_last (Below.refl _ _) _),sg_below (below_last (Below.refl _ _) _),u.heap.size,rfl,hinv.lt,there_alloc_new u _ _ 18 (by decide)⟩
   ·cases ho
    have d9:b.tmps.getD 120 undef=.agg (insL (i0 g false)).toArray:=hdep 9 (by kernel_rfl)
    obtain⟨k,hk1,hk2,hk3⟩:=hdep 10 (by kernel_rfl)
    have d10:b.tmps.getD 13 undef=.pointer (some ⟨k,0,none⟩):=hk1
    refine wp_store_mid 34 (.tmp 13) (.tmp 120) rfl k 0 (insL (i0 g false)).toArray d10 d9 hk3 info_ins (ins_one _) ⟨_,(),rfl,hinv.put k 0 hk2 _,sg_put hk3,k,hk1,hk2,World.rangeAt_setCells_same u k 0 _ hk3⟩
  ·intro ff u gg hinv hVV
   obtain⟨k,hk1,hk2,hk3⟩:=hVV 11 (by decide)
   have h13:ff 10=.pointer (some ⟨k,0,none⟩):=hk1
   simp only[List.size_toArray,List.length_cons,List.length_nil,Nat.reduceAdd,laid,List.getElem?_toArray,List.getElem?_cons_zero,List.getElem?_cons_succ,Option.bind_some,Act.put,List.setIfInBounds_toArray,List.set_cons_zero,List.set_cons_succ]
   go_wp2_with fail
   go_meet
   case rel=>exact⟨k,by first|rfl|exact h13,hk2,hk3,hinv⟩
 case rest=>
  obtain⟨k,rfl,hk2,hk3,hf3⟩:=hcut
  have hkl:k<wc.heap.size:=cell_lt (hk3 0 _ rfl)
  have HK:=Lib.hid hk3
  have HF3:=Lib.hid hf3
  obtain⟨f0,f1,f2,f3⟩:=frm_cells hf3
  have hfl:=hf3.lt
  clear hk3 hf3
  have hth:=there_alloc_new wc #[.int .i64 0,.int .i64 0,.int .i64 0,.int .i64 0,.int .i64 0,.int .u32 0] 32 6 (by decide)
  have hfa:=HF3.out.ext (below_last (Below.refl _ _) (.cells #[.int .i64 0,.int .i64 0,.int .i64 0,.int .i64 0,.int .i64 0,.int .u32 0] 32))
  have hka:=range_alloc (.cells #[.int .i64 0,.int .i64 0,.int .i64 0,.int .i64 0,.int .i64 0,.int .u32 0] 32) HK.out hkl
  have HHR:=Lib.hid (rhasrm_any ⟨g.how.toArray⟩ hsz)
  have HTO:=Lib.hid hth
  have HKA:=Lib.hid hka
  have HFA:=Lib.hid hfa
  clear hth hfa hka
  go_wp2_with fail
  refine(HHR.out _).mono ?_
  rintro e w2 ⟨rfl,rfl⟩
  rw[show hasF (⟨g.how.toArray⟩:ByteArray).data.toList=true from hhas]
  clear hhas
  go_wp2_with fail
  refine(HRM.out _ HFA.out.below).mono ?_
  rintro e w2 ⟨rfl,hb2⟩
  have HTO2:=Lib.hid (there_but (F:=fun _=>False) (But.of_below hb2) (fun h=>h) (by simp) HTO.out)
  have HKA2:=Lib.hid (range_but (F:=fun _=>False) (But.of_below hb2) (fun h=>h) HKA.out)
  have HFA2:=Lib.hid (HFA.out.ext hb2)
  have hws:wc.heap.size<w2.heap.size:=by have:=hb2.size;simp at this;omega
  clear hb2
  go_wp2_with (first
   |(refine store_mid rfl 32 (.tmp 14) (.tmp 129) rfl wc.heap.size 0 rfl (opL' zeroO) rfl info_opd1 (opd_one zeroO) HTO2.out ?_;intro Z1 hZ1;have HFZ:=Lib.hid (show FInv w g Z1 by rw[hZ1];exact HFA2.out.put _ _ hfl _);clear hZ1)
   |(refine store_ins rfl (.tmp 2) (.tmp 135) rfl w.heap.size rfl zeroI rfl HFZ.out.res ?_;intro Y hY hl;have HY:=Lib.hid hY;have HL:=Lib.hid hl;clear hY hl))
  refine bodyPost_ret (results_cell_tmp rfl rfl rfl HL.out) rfl ⟨rfl,?_⟩
  rw[HY.out]
  exact below_setCells (Nat.le_refl _) _ _ _ HFZ.out.below
theorem rone_e_bad(v:Value)(L:Nat)(bs:Nat→Int)(hb:∀i,0≤bs i∧bs i<256)(hL:L≤1099511627776)(w:World)(hs:Slc .u8 w v L bs)(n0:bs 0≠243)(n1:bs 0≠15)(n2:bs 0≠242)(n3:bs 0≠102)(hL2:1≤L)(g:Frm)(hrow:firstF (bs 0) (behF L bs 1) (behM L bs 1)=(g,false,false)):
  Calls Tryz.prog 10 #[v] w fun e w'=>e=.returned (insR (zeroI,22))∧Below w.heap.size w w':=by
 rcases id hs with⟨_,h00⟩|⟨ad,cap,rfl,hl,hc⟩
 ·omega
 have hA0:w.cell? ad=some (.int .u8 (bs 0)):=by simpa[Addr.add]using hc 0 (by omega)
 have hA1:∀o,(w.alloc o).cell? ad=some (.int .u8 (bs 0)):=fun o=>cell_alloc hA0
 have jx0:(0:Int)<(L:Int):=by omega
 have e0:((L:Int)==0)=false:=by simp;omega
 have e0':(L==0)=false:=by simp;omega
 have hBW:∀W,Below w.heap.size w W→Slc .u8 W (.slice (some ad) L cap) L bs:=fun W hW=>hs.below hW
 have HSL:=Lib.hid hBW
 obtain⟨hbl0,hsz0,hR0,hF0⟩:=ini0 w
 have HBL0:=Lib.hid hbl0
 have HSZ0:=Lib.hid hsz0
 have HR0:=Lib.hid hR0
 have HF0:=Lib.hid hF0
 clear hbl0 hsz0 hR0 hF0
 obtain⟨c0,c1⟩:=hb 0
 have hbd:=behF_bd L bs 1
 have HFI:=first_any (bs 0) (behF L bs 1) (behM L bs 1) c0 c1 hbd.1 hbd.2
 rw[hrow]at HFI
 have HFI:Hid (∀W,Calls Tryz.prog 20 #[.int .u8 (bs 0),.int .i64 (behF L bs 1),.bool (behM L bs 1)] W fun e w'=>e=.returned (.tuple #[frmV g,.bool false,.bool false])∧Below W.heap.size W w'):=HFI
 have HBH:=Lib.hid (fun W hW=>rbehind_any _ L bs hb 1 W (HSL.out W hW))
 have q1:(bs 0==243)=false:=by simpa using n0
 have q2:(bs 0==15)=false:=by simpa using n1
 have q3:(bs 0==242)=false:=by simpa using n2
 have q4:(bs 0==102)=false:=by simpa using n3
 generalize behF L bs 1=rgb at *
 generalize behM L bs 1=mdb at *
 clear hs hb hc n0 n1 n2 n3 hrow hL hl hBW c0 c1 hbd
 go_enter Tryz.func10,Tryz.ntmps10
 go_wp2_with fail
 refine(HBH.out _ HBL0.out).mono ?_
 rintro e u1 ⟨rfl,nq,rfl⟩
 go_wp2_with fail
 refine(HFI.out _).mono ?_
 rintro e u2 ⟨rfl,hb2⟩
 replace hb2:Below ((w.alloc (.cells zeroA 34)).alloc (.cells #[.int .i64 0,.int .i64 0,.int .i64 0,.string ⟨#[]⟩,.int .i64 0] 63)).heap.size ((w.alloc (.cells zeroA 34)).alloc (.cells #[.int .i64 0,.int .i64 0,.int .i64 0,.string ⟨#[]⟩,.int .i64 0] 63)) u2:=below_undrewN hb2
 have hRu:=there_but (F:=fun _=>False) (But.of_below hb2) (fun h=>h) (by rw[HSZ0.out];omega) HR0.out
 have HFu:=Lib.hid (there_but (F:=fun _=>False) (But.of_below hb2) (fun h=>h) (by rw[HSZ0.out];omega) HF0.out)
 have HRu:=Lib.hid hRu
 have HBu:=Lib.hid (HBL0.out.trans (hb2.mono HBL0.out.size))
 clear hb2 hRu
 go_wp2_with (first|(refine store_frm rfl (.tmp 6) (.tmp 38) rfl (w.heap.size+1) rfl g rfl HFu.out ?_;intro Z hZ;have HF:=Lib.hid (show FInv w g Z by rw[hZ];exact⟨below_setCells (by omega) _ _ _ HBu.out,World.rangeAt_setCells_same _ _ _ _ HFu.out,World.there_setCells HRu.out _ _ _⟩);clear hZ)|(refine store_ins rfl (.tmp 2) (.tmp 45) rfl w.heap.size rfl zeroI rfl HF.out.res ?_;intro Y hY hl;have HY:=Lib.hid hY;have HL:=Lib.hid hl;clear hY hl))
 refine bodyPost_ret (results_cell_tmp rfl rfl rfl HL.out) rfl ⟨rfl,?_⟩
 rw[HY.out]
 exact below_setCells (Nat.le_refl _) _ _ _ HF.out.below
theorem rone_e_wait(v:Value)(L:Nat)(bs:Nat→Int)(hb:∀i,0≤bs i∧bs i<256)(hL:L≤1099511627776)(w:World)(hs:Slc .u8 w v L bs)(n0:bs 0≠243)(n1:bs 0≠15)(n2:bs 0≠242)(n3:bs 0≠102)(hL2:1≤L)(g:Frm)(ok:Bool)(hrow:firstF (bs 0) (behF L bs 1) (behM L bs 1)=(g,ok,true)):
  Calls Tryz.prog 10 #[v] w fun e w'=>e=.returned (insR (zeroI,21))∧Below w.heap.size w w':=by
 rcases id hs with⟨_,h00⟩|⟨ad,cap,rfl,hl,hc⟩
 ·omega
 have hA0:w.cell? ad=some (.int .u8 (bs 0)):=by simpa[Addr.add]using hc 0 (by omega)
 have hA1:∀o,(w.alloc o).cell? ad=some (.int .u8 (bs 0)):=fun o=>cell_alloc hA0
 have jx0:(0:Int)<(L:Int):=by omega
 have e0:((L:Int)==0)=false:=by simp;omega
 have e0':(L==0)=false:=by simp;omega
 have hBW:∀W,Below w.heap.size w W→Slc .u8 W (.slice (some ad) L cap) L bs:=fun W hW=>hs.below hW
 have HSL:=Lib.hid hBW
 obtain⟨hbl0,hsz0,hR0,hF0⟩:=ini0 w
 have HBL0:=Lib.hid hbl0
 have HSZ0:=Lib.hid hsz0
 have HR0:=Lib.hid hR0
 have HF0:=Lib.hid hF0
 clear hbl0 hsz0 hR0 hF0
 obtain⟨c0,c1⟩:=hb 0
 have hbd:=behF_bd L bs 1
 have HFI:=first_any (bs 0) (behF L bs 1) (behM L bs 1) c0 c1 hbd.1 hbd.2
 rw[hrow]at HFI
 have HFI:Hid (∀W,Calls Tryz.prog 20 #[.int .u8 (bs 0),.int .i64 (behF L bs 1),.bool (behM L bs 1)] W fun e w'=>e=.returned (.tuple #[frmV g,.bool ok,.bool true])∧Below W.heap.size W w'):=HFI
 have HBH:=Lib.hid (fun W hW=>rbehind_any _ L bs hb 1 W (HSL.out W hW))
 have q1:(bs 0==243)=false:=by simpa using n0
 have q2:(bs 0==15)=false:=by simpa using n1
 have q3:(bs 0==242)=false:=by simpa using n2
 have q4:(bs 0==102)=false:=by simpa using n3
 generalize behF L bs 1=rgb at *
 generalize behM L bs 1=mdb at *
 clear hs hb hc n0 n1 n2 n3 hrow hL hl hBW c0 c1 hbd
 go_enter Tryz.func10,Tryz.ntmps10
 go_wp2_with fail
 refine(HBH.out _ HBL0.out).mono ?_
 rintro e u1 ⟨rfl,nq,rfl⟩
 go_wp2_with fail
 refine(HFI.out _).mono ?_
 rintro e u2 ⟨rfl,hb2⟩
 replace hb2:Below ((w.alloc (.cells zeroA 34)).alloc (.cells #[.int .i64 0,.int .i64 0,.int .i64 0,.string ⟨#[]⟩,.int .i64 0] 63)).heap.size ((w.alloc (.cells zeroA 34)).alloc (.cells #[.int .i64 0,.int .i64 0,.int .i64 0,.string ⟨#[]⟩,.int .i64 0] 63)) u2:=below_undrewN hb2
 have hRu:=there_but (F:=fun _=>False) (But.of_below hb2) (fun h=>h) (by rw[HSZ0.out];omega) HR0.out
 have HFu:=Lib.hid (there_but (F:=fun _=>False) (But.of_below hb2) (fun h=>h) (by rw[HSZ0.out];omega) HF0.out)
 have HRu:=Lib.hid hRu
 have HBu:=Lib.hid (HBL0.out.trans (hb2.mono HBL0.out.size))
 clear hb2 hRu
 go_wp2_with (first|(refine store_frm rfl (.tmp 6) (.tmp 38) rfl (w.heap.size+1) rfl g rfl HFu.out ?_;intro Z hZ;have HF:=Lib.hid (show FInv w g Z by rw[hZ];exact⟨below_setCells (by omega) _ _ _ HBu.out,World.rangeAt_setCells_same _ _ _ _ HFu.out,World.there_setCells HRu.out _ _ _⟩);clear hZ)|(refine store_ins rfl (.tmp 2) (.tmp 42) rfl w.heap.size rfl zeroI rfl HF.out.res ?_;intro Y hY hl;have HY:=Lib.hid hY;have HL:=Lib.hid hl;clear hY hl))
 refine bodyPost_ret (results_cell_tmp rfl rfl rfl HL.out) rfl ⟨rfl,?_⟩
 rw[HY.out]
 exact below_setCells (Nat.le_refl _) _ _ _ HF.out.below
end Go.Proofs.YtmdncgfheeijaaaGreat
