import Derived.Test.YtmdncgfheeijaaaGreatKVG27
namespace Go.Proofs.YtmdncgfheeijaaaGreat
open Go.ChangeShapes Go.WideShapes Go.ChangeAt Go.RowKit
set_option maxRecDepth 100000
theorem info_r4:(Tryz.prog.info? 23).map (·.size)=some 8:=by kernel_rfl
theorem info_r8:(Tryz.prog.info? 27).map (·.size)=some 8:=by kernel_rfl
def TV15(s:Sta)(I:Ins)(r x:Nat→Int)(f near n:Int):Nat→Value→World→Prop
 |0,v,_=>v=.agg (staL s).toArray
 |1,v,_=>v=.agg (insL I).toArray
 |2,v,_=>v=.int .u32 n
 |3,v,_=>v=.bool true
 |4,v,_=>v=.bool true
 |5,v,_=>v=.agg (rowL_u32 r).toArray
 |6,v,_=>v=.agg (rowL_u64 x).toArray
 |7,v,_=>v=.int .u8 f
 |8,v,_=>v=.int .u8 near
 |9,v,_=>∃t,v=.agg (staL t).toArray∧StaOk t
 |10,v,_=>v=.agg (insL I).toArray
 |11,v,_=>v=.int .u32 n
 |12,v,_=>v=.bool true
 |13,v,_=>v=.bool true
 |14,v,_=>v=.bool true
 |_,_,_=>True
theorem tv15_stays{s:Sta}{I:Ins}{r x:Nat→Int}{f near n:Int}(i:Nat)(v:Value)(u u':World)(h:TV15 s I r x f near n i v u)(_:True):TV15 s I r x f near n i v u':=by
 unfold TV15 at h ⊢
 split at h
 all_goals exact h
set_option maxHeartbeats 8000000
theorem alutells_walk(HDO:DoC 17)(HIS:IsC 15)(HON:OneC 10)(HAL:RAluC 29)(s:Sta)(r x:Nat→Int)(f near k rm d n:Int)(hs:StaOk s)(hr:∀i,i<8→0≤r i∧r i<4294967296)(hx:∀i,i<8→0≤x i∧x i<18446744073709551616)(f0:0≤f)(f1:f<256)(e0:0≤near)(e1:near<256)(k0:0≤k)(k1:k<256)(m0:0≤rm)(m1:rm<256)(d0:0≤d)(d1:d<4294967296)(n0:0≤n)(n1:n<4294967296)(w:World):
  Calls Tryz.prog 3 #[.agg (staL s).toArray,.agg (rowL_u32 r).toArray,.agg (rowL_u64 x).toArray,.int .u8 f,.int .u8 near,.int .u8 k,.int .u8 rm,.int .u32 d,.int .u32 n] w fun e w'=>e=.returned (.bool true)∧Below w.heap.size w w':=by
 have HK:=Lib.hid (known15_any HDO HIS HON)
 have HBY:=Lib.hid (fun u=>bytes_any k rm d u k0 k1 d0 d1)
 have HST:=Lib.hid (fun u=>seatstate_any r x hr hx f near f0 f1 e0 e1 u)
 have HSA:=Lib.hid (fun(t:Sta) (I:Ins) (ht:StaOk t) (hI:DecI I) (u:World)=>same15_any HDO HAL t I n ht hI n0 n1 u)
 have lok:=bytesF_ok k rm d m0 m1 d0 d1
 obtain⟨l13,l15⟩:=bytesF_len k rm d
 have HS:=Lib.hid hs
 generalize bytesF k rm d=Y at HBY lok l13 l15
 have HON1:=Lib.hid (fun v u hu=>HON v Y.length (lst Y) (lst_ok lok) (by omega) u hu)
 have HOK:=Lib.hid (lst_ok lok)
 obtain⟨y,hy⟩:∃y,oneF Y.length (lst Y)=y:=⟨_,rfl⟩
 obtain⟨I,E⟩:=y
 rw[hy]at HON1
 have HY:=Lib.hid hy
 clear hr hx f0 f1 e0 e1 k0 k1 m0 m1 d0 d1 n0 n1 lok l13 l15 hs hy
 go_enter Tryz.func3,Tryz.ntmps3
 obtain⟨W,hW⟩:∃W,W=((w.alloc (.cells (staL s).toArray 29)).alloc (.cells (rowL_u32 r).toArray 23)).alloc (.cells (rowL_u64 x).toArray 27):=⟨_,rfl⟩
 have HW:=Lib.hid (show _∧_ from heap_three hW)
 go_upto_region 1 with fail
 show Code.wp _ _ _ _ (((w.alloc (.cells (staL s).toArray 29)).alloc (.cells (rowL_u32 r).toArray 23)).alloc (.cells (rowL_u64 x).toArray 27))
 rw[←hW]
 clear hW
 go_wp2_with fail
 ((with_reducible refine(HK.out _).mono ?_);rintro e w1 ⟨rfl,b1⟩)
 have HB1:=Lib.hid b1
 clear b1
 go_wp2_with fail
 ((with_reducible refine(HBY.out _).mono ?_);rintro e w2 ⟨v2,rfl,O2,b2⟩)
 have S2:=O2.slc
 obtain⟨ad,cap,rfl⟩:=O2.len
 have HS2:=Lib.hid S2
 have HB2:=Lib.hid (below_step HB1.out b2)
 clear S2 O2 b2
 go_wp2_with fail
 ((with_reducible refine(HON1.out _ _ HS2.out).mono ?_);rintro e w3 ⟨rfl,b3⟩)
 have HB3:=Lib.hid (below_step HB2.out b3)
 clear b3
 unfold insR
 dsimp only
 rw[show insV I=.agg (insL I).toArray from rfl]
 have HTH:=Lib.hid (there_alloc_new w3 zeroA 34 18 (by decide))
 go_upto_region 4 with(refine store_row rfl 34 (.tmp 19) (.tmp 29) rfl w3.heap.size rfl (insL I) rfl _ Tryz.underlying34 rfl info_ins (ins_one _) HTH.out ?_;intro V hV hl;clear hl;have HV:=Lib.hid (show Below w3.heap.size w3 V∧V.rangeAt w3.heap.size 0 (insL I)∧w3.heap.size<V.heap.size by rw[hV];exact⟨below_setCells (Nat.le_refl _) _ _ _ (below_last (Below.refl _ _) _),World.rangeAt_setCells_same _ _ _ _ HTH.out,by rw[setCells_size];simp⟩);clear hV)
 have HBV:=Lib.hid (below_step HB3.out HV.out.1)
 have HBW:=Lib.hid (HW.out.2.2.2.trans (HBV.out.mono HW.out.2.2.2.size))
 by_cases hE:E=0
 ·subst hE
  have c0:V.cell? ⟨w3.heap.size,0,none⟩=some (.int .i64 I.op):=HV.out.2.1 0 _ rfl
  have HIA:=Lib.hid (fun u=>risalu_any I.op u)
  obtain⟨q,hq⟩:∃q,isAluB I.op=q:=⟨_,rfl⟩
  rw[hq]at HIA
  have HQ:=Lib.hid hq
  clear hq
  go_wp2_with fail
  ((with_reducible refine(HIA.out _).mono ?_);rintro e w4 ⟨rfl,rfl⟩)
  cases q with
  |false=>
   clear c0
   go_wp2_with fail
   go_returns
   exact⟨rfl,HBW.out⟩
  |true=>
   have HDI:=Lib.hid (show DecI I from⟨⟨_,_,HOK.out,HY.out⟩,HQ.out⟩)
   clear c0
   go_wp2_with fail
   have HRS:=Lib.hid (fun u (hu:Below V.heap.size V u)=>(show u.rangeAt w.heap.size 0 (staL s)from range_in13 (((hu.mono HBV.out.size).block _ (Array.getElem?_eq_some_iff.1 HW.out.1).1).trans ((HBV.out.block _ (Array.getElem?_eq_some_iff.1 HW.out.1).1).trans HW.out.1)) 0 _ rfl))
   have HRR:=Lib.hid (fun u (hu:Below V.heap.size V u)=>(show u.rangeAt (w.heap.size+1) 0 (rowL_u32 r)from range_in13 (((hu.mono HBV.out.size).block _ (Array.getElem?_eq_some_iff.1 HW.out.2.1).1).trans ((HBV.out.block _ (Array.getElem?_eq_some_iff.1 HW.out.2.1).1).trans HW.out.2.1)) 0 _ rfl))
   have HRX:=Lib.hid (fun u (hu:Below V.heap.size V u)=>(show u.rangeAt (w.heap.size+2) 0 (rowL_u64 x)from range_in13 (((hu.mono HBV.out.size).block _ (Array.getElem?_eq_some_iff.1 HW.out.2.2.1).1).trans ((HBV.out.block _ (Array.getElem?_eq_some_iff.1 HW.out.2.2.1).1).trans HW.out.2.2.1)) 0 _ rfl))
   have HRI:=Lib.hid (fun u (hu:Below V.heap.size V u)=>(show u.rangeAt w3.heap.size 0 (insL I)from fun j v hj=>(hu.cell (p:=⟨w3.heap.size,0+j,none⟩) HV.out.2.2).trans (HV.out.2.1 j v hj)))
   refine wp_region_valsG (by kernel_rfl) (fun _=>false) (by kernel_rfl) (fun u=>Below V.heap.size V u) (fun _ _=>True) (TV15 s I r x f near n) tv15_stays (fun _=>trivial) ((Below.refl _ _).drew) ?_ ?_
   ·intro i op c u ho hinv hsz hbase hdep
    have hn:i<15:=(Array.getElem?_eq_some_iff.1 ho).1
    have p9:c.tmps.getD 9 undef=.pointer (some ⟨w.heap.size,0,none⟩):=hbase 9 (by kernel_rfl)
    have p10:c.tmps.getD 10 undef=.pointer (some ⟨w.heap.size+1,0,none⟩):=hbase 10 (by kernel_rfl)
    have p11:c.tmps.getD 11 undef=.pointer (some ⟨w.heap.size+2,0,none⟩):=hbase 11 (by kernel_rfl)
    have p19:c.tmps.getD 19 undef=.pointer (some ⟨w3.heap.size,0,none⟩):=hbase 19 (by kernel_rfl)
    have p3:c.tmps.getD 3 undef=.int .u8 f:=hbase 3 (by kernel_rfl)
    have p4:c.tmps.getD 4 undef=.int .u8 near:=hbase 4 (by kernel_rfl)
    have p8:c.tmps.getD 8 undef=.int .u32 n:=hbase 8 (by kernel_rfl)
    clear hbase hsz
    rcases(show i=0∨i=1∨i=2∨i=3∨i=4∨i=5∨i=6∨i=7∨i=8∨i=9∨i=10∨i=11∨i=12∨i=13∨i=14 by omega)with rfl|rfl|rfl|rfl|rfl|rfl|rfl|rfl|rfl|rfl|rfl|rfl|rfl|rfl|rfl
    ·have ho0:=ho
     cases ho
     refine wpOp_free ho0 rfl ?_
     have hl:=load_range (P:=Tryz.prog) (cs:=staL s) 29 _ Tryz.underlying29 rfl info_sta (HRS.out u hinv)
     exact wp_val (by simp[execOp,Act.eval,p9,Instr.loadAt,Instr.sureAddr,hl]<;>rfl) ⟨_,rfl,hinv,trivial,rfl⟩
    ·have ho0:=ho
     cases ho
     refine wpOp_free ho0 rfl ?_
     have hl:=load_range (P:=Tryz.prog) (cs:=insL I) 34 _ Tryz.underlying34 rfl info_ins (HRI.out u hinv)
     exact wp_val (by simp[execOp,Act.eval,p19,Instr.loadAt,Instr.sureAddr,hl]<;>rfl) ⟨_,rfl,hinv,trivial,rfl⟩
    ·have ho0:=ho
     cases ho
     refine wpOp_free ho0 rfl ?_
     exact wp_val (by simp[execOp,Act.eval,p8,go_sem]<;>rfl) ⟨_,rfl,hinv,trivial,rfl⟩
    ·have ho0:=ho
     cases ho
     have e0:c.tmps.getD 39 undef=.agg (staL s).toArray:=hdep 0 (by kernel_rfl)
     have e1:c.tmps.getD 40 undef=.agg (insL I).toArray:=hdep 1 (by kernel_rfl)
     have e2:c.tmps.getD 41 undef=.int .u32 n:=hdep 2 (by kernel_rfl)
     refine wpOp_free ho0 rfl ?_
     refine wp_call (by simp[execOp,Act.eval,e0,e1,e2,go_sem]<;>rfl) ((HSA.out s I HS.out HDI.out u).mono ?_)
     rintro e u' ⟨rfl,hb⟩
     exact⟨_,rfl,_,rfl,below_step hinv hb,trivial,rfl⟩
    ·have ho0:=ho
     cases ho
     have e3:c.tmps.getD 42 undef=.bool true:=hdep 3 (by kernel_rfl)
     refine wpOp_free ho0 rfl ?_
     exact wp_val (by simp[execOp,Act.eval,e3,go_sem]<;>rfl) ⟨_,rfl,hinv,trivial,rfl⟩
    ·have ho0:=ho
     cases ho
     have hG:=hdep 4 (by kernel_rfl)
     refine wpOp_met ho0 4 true rfl hG ?_
     have hl:=load_range (P:=Tryz.prog) (cs:=rowL_u32 r) 23 _ Tryz.underlying23 rfl info_r4 (HRR.out u hinv)
     exact wp_val (by simp[execOp,Act.eval,p10,Instr.loadAt,Instr.sureAddr,hl]<;>rfl) ⟨_,rfl,hinv,trivial,rfl⟩
    ·have ho0:=ho
     cases ho
     have hG:=hdep 4 (by kernel_rfl)
     refine wpOp_met ho0 4 true rfl hG ?_
     have hl:=load_range (P:=Tryz.prog) (cs:=rowL_u64 x) 27 _ Tryz.underlying27 rfl info_r8 (HRX.out u hinv)
     exact wp_val (by simp[execOp,Act.eval,p11,Instr.loadAt,Instr.sureAddr,hl]<;>rfl) ⟨_,rfl,hinv,trivial,rfl⟩
    ·have ho0:=ho
     cases ho
     have hG:=hdep 4 (by kernel_rfl)
     refine wpOp_met ho0 4 true rfl hG ?_
     exact wp_val (by simp[execOp,Act.eval,p3,go_sem]<;>rfl) ⟨_,rfl,hinv,trivial,rfl⟩
    ·have ho0:=ho
     cases ho
     have hG:=hdep 4 (by kernel_rfl)
     refine wpOp_met ho0 4 true rfl hG ?_
     exact wp_val (by simp[execOp,Act.eval,p4,go_sem]<;>rfl) ⟨_,rfl,hinv,trivial,rfl⟩
    ·have ho0:=ho
     cases ho
     have e5:c.tmps.getD 44 undef=.agg (rowL_u32 r).toArray:=hdep 5 (by kernel_rfl)
     have e6:c.tmps.getD 45 undef=.agg (rowL_u64 x).toArray:=hdep 6 (by kernel_rfl)
     have e7:c.tmps.getD 46 undef=.int .u8 f:=hdep 7 (by kernel_rfl)
     have e8:c.tmps.getD 47 undef=.int .u8 near:=hdep 8 (by kernel_rfl)
     have hG:=hdep 4 (by kernel_rfl)
     refine wpOp_met ho0 4 true rfl hG ?_
     refine wp_call (by simp[execOp,Act.eval,e5,e6,e7,e8,go_sem]<;>rfl) ((HST.out u).mono ?_)
     rintro e u' ⟨t,rfl,ht,hb⟩
     exact⟨_,rfl,_,rfl,below_step hinv hb,trivial,t,rfl,ht⟩
    ·have ho0:=ho
     cases ho
     have hG:=hdep 4 (by kernel_rfl)
     refine wpOp_met ho0 4 true rfl hG ?_
     have hl:=load_range (P:=Tryz.prog) (cs:=insL I) 34 _ Tryz.underlying34 rfl info_ins (HRI.out u hinv)
     exact wp_val (by simp[execOp,Act.eval,p19,Instr.loadAt,Instr.sureAddr,hl]<;>rfl) ⟨_,rfl,hinv,trivial,rfl⟩
    ·have ho0:=ho
     cases ho
     have hG:=hdep 4 (by kernel_rfl)
     refine wpOp_met ho0 4 true rfl hG ?_
     exact wp_val (by simp[execOp,Act.eval,p8,go_sem]<;>rfl) ⟨_,rfl,hinv,trivial,rfl⟩
    ·have ho0:=ho
     cases ho
     have e10:c.tmps.getD 49 undef=.agg (insL I).toArray:=hdep 10 (by kernel_rfl)
     have e11:c.tmps.getD 50 undef=.int .u32 n:=hdep 11 (by kernel_rfl)
     have hG:=hdep 4 (by kernel_rfl)
     refine wpOp_met ho0 4 true rfl hG ?_
     have e9:∃t,c.tmps.getD 48 undef=.agg (staL t).toArray∧StaOk t:=hdep 9 (by kernel_rfl)
     obtain⟨t,e9,ht⟩:=e9
     refine wp_call (by simp[execOp,Act.eval,e9,e10,e11,go_sem]<;>rfl) ((HSA.out t I ht HDI.out u).mono ?_)
     rintro e u' ⟨rfl,hb⟩
     exact⟨_,rfl,_,rfl,below_step hinv hb,trivial,rfl⟩
    ·have ho0:=ho
     cases ho
     have e4:c.tmps.getD 43 undef=.bool true:=hdep 4 (by kernel_rfl)
     have e12:c.tmps.getD 51 undef=.bool true:=hdep 12 (by kernel_rfl)
     refine wpOp_free ho0 rfl ?_
     exact wp_val (by simp[execOp,Act.eval,e4,e12,go_sem]<;>rfl) ⟨_,rfl,hinv,trivial,rfl⟩
    ·have ho0:=ho
     cases ho
     have e13:c.tmps.getD 52 undef=.bool true:=hdep 13 (by kernel_rfl)
     refine wpOp_free ho0 rfl ?_
     exact wp_val (by simp[execOp,Act.eval,e13,go_sem]<;>rfl) ⟨_,rfl,hinv,trivial,rfl⟩
   ·intro g u hinv hV
    have q14:g 14=.bool true:=hV 14 (by decide)
    generalize hc:laid _ g _ _=cc
    have b18:cc.tmps.getD 18 undef=.bool true:=by rw[←hc,←q14];kernel_rfl
    have bd:cc.defers=[]:=by rw[←hc];kernel_rfl
    have HI:=Lib.hid (HBW.out.trans (hinv.mono HBW.out.size))
    clear hc hV q14 hinv
    go_wp2_with fail
    refine bodyPost_ret (v:=.bool true) ?_ bd ⟨rfl,HI.out⟩
    have hr:Tryz.f3.results=#[.tmp 18]:=by kernel_rfl
    unfold results
    rw[hr]
    rw[Array.getD_eq_getD_getElem?]at b18
    simpa using b18
 ·have hne:(E != 0)=true:=by simpa using hE
  clear hE
  go_wp2_with fail
  go_returns
  exact⟨rfl,HBW.out⟩
end Go.Proofs.YtmdncgfheeijaaaGreat
