import Derived.Great.BuildSlice
import Derived.Test.YtmdncgfheeijaaaGreatKVG27
namespace Go.Proofs.YtmdncgfheeijaaaGreat
open Go.ChangeShapes Go.WideShapes Go.ChangeAt Go.RowKit
set_option maxRecDepth 100000
theorem info_r4b:(Tryz.prog.info? 23).map (·.size)=some 8:=by kernel_rfl
theorem info_r8b:(Tryz.prog.info? 27).map (·.size)=some 8:=by kernel_rfl
def regsL:List (List Int):=[[0],[1],[8],[16],[17],[24],[25],[32],[33],[40],[41],[48],[49],[56],[57],[132],[133],[134],[135],[136],[137],[246],[247],[193],[209],[211],[254],[15,175],[15,182],[15,191],[107],[152],[153]]
def regsA:Array Value:=(regsL.map hdS).toArray
def rgF(n:Nat):List Int:=regsL.getD n []
theorem rg_all:regsL.all (fun l=>decide (1≤l.length)&&decide (l.length≤2)&&l.all fun i=>decide (0≤i)&&decide (i<256))=true:=by kernel_rfl
theorem rg_len:regsL.length=33:=by kernel_rfl
theorem rg_ok(n:Nat)(hn:n<33):1≤(rgF n).length∧(rgF n).length≤2∧∀i∈rgF n,0≤i∧i<256:=by
 have hk:n<regsL.length:=by rw[rg_len];exact hn
 have hm:rgF n∈regsL:=by
  unfold rgF
  rw[List.getD_eq_getElem?_getD,List.getElem?_eq_getElem hk]
  exact List.getElem_mem hk
 have h:=List.all_eq_true.1 rg_all _ hm
 simp only[Bool.and_eq_true,decide_eq_true_eq,List.all_eq_true]at h
 exact⟨h.1.1,h.1.2,h.2⟩
theorem rg_at(n:Nat)(hn:n<33):regsA[n]?=some (hdS (rgF n)):=by
 have hk:n<regsL.length:=by rw[rg_len];exact hn
 unfold regsA rgF
 simp[List.getElem?_eq_getElem hk]
theorem or192:∀m:Fin 256,192≤bits .or .u8 ((m:Nat):Int) 192∧bits .or .u8 ((m:Nat):Int) 192<256:=by decide +kernel
theorem andq15:∀c:Fin 256,bits .and .u8 ((c:Nat):Int) 15=((c:Nat):Int)%16:=by decide +kernel
theorem or64:∀q:Fin 16,bits .or .u8 64 ((q:Nat):Int)=64+((q:Nat):Int)∧bits .or .u8 144 ((q:Nat):Int)=144+((q:Nat):Int):=by decide +kernel
def cmvB(p:Int)(q:Fin 16)(j:Fin 64):Bool:=((oneF 3 (lst [15,p+((q:Nat):Int),192+((j:Nat):Int)])).2==0)&&isAluB (oneF 3 (lst [15,p+((q:Nat):Int),192+((j:Nat):Int)])).1.op
theorem cmv_all:∀q:Fin 16,∀j:Fin 64,cmvB 64 q j=true∧cmvB 144 q j=true:=by decide +kernel
theorem cmv_dec(p:Int)(hp:p=64∨p=144)(q:Nat)(hq:q<16)(M:Int)(M0:192≤M)(M1:M<256):∃I,oneF 3 (lst [15,p+(q:Int),M])=(I,0)∧DecI I:=by
 obtain⟨j,hj⟩:∃j:Nat,M=192+(j:Int):=⟨(M-192).toNat,by omega⟩
 subst hj
 have h:=cmv_all ⟨q,hq⟩ ⟨j,by omega⟩
 have h:cmvB p ⟨q,hq⟩ ⟨j,by omega⟩=true:=by rcases hp with rfl|rfl;exact h.1;exact h.2
 unfold cmvB at h
 simp only[Bool.and_eq_true,beq_iff_eq]at h
 have hb:∀i,0≤lst [15,p+(q:Int),192+(j:Int)] i∧lst [15,p+(q:Int),192+(j:Int)] i<256:=lst_ok (by
  intro x hx
  simp only[List.mem_cons,List.not_mem_nil,or_false]at hx
  rcases hx with rfl|rfl|rfl
  ·omega
  ·rcases hp with rfl|rfl<;>omega
  ·omega)
 generalize hy:oneF 3 (lst [15,p+(q:Int),192+(j:Int)])=y at h
 obtain⟨I,E⟩:=y
 have hE:E=0:=h.1
 subst hE
 exact⟨I,rfl,⟨_,_,hb,hy⟩,h.2⟩
set_option maxHeartbeats 8000000
theorem aluregs_walk(HDO:DoC 17)(HIS:IsC 15)(HON:OneC 10)(HAL:RAluC 29)(r x:Nat→Int)(f m c d:Int)(hr:∀i,i<8→0≤r i∧r i<4294967296)(hx:∀i,i<8→0≤x i∧x i<18446744073709551616)(f0:0≤f)(f1:f<256)(m0:0≤m)(m1:m<256)(c0:0≤c)(c1:c<256)(d0:0≤d)(d1:d<4294967296)(w:World):
  Calls Tryz.prog 4 #[.agg (rowL_u32 r).toArray,.agg (rowL_u64 x).toArray,.int .u8 f,.int .u8 m,.int .u8 c,.int .u32 d] w fun e w'=>e=.returned (.bool true)∧Below w.heap.size w w':=by
 have HK:=Lib.hid (known15_any HDO HIS HON)
 have HST:=Lib.hid (fun u=>seatstate_any r x hr hx f 0 f0 f1 (by decide) (by decide) u)
 have HSA:=Lib.hid (fun(t:Sta) (I:Ins) (ht:StaOk t) (hI:DecI I) (u:World)=>same15_any HDO HAL t I 1 ht hI (by decide) (by decide) u)
 have HONE:=Lib.hid (fun v L bs hb hL u hu=>HON v L bs hb hL u hu)
 obtain⟨M,hM⟩:∃M,bits .or .u8 m 192=M:=⟨_,rfl⟩
 obtain⟨q,hq⟩:∃q:Nat,c%16=q:=⟨(c%16).toNat,by omega⟩
 have hA:bits .and .u8 c 15=(q:Int):=by
  obtain⟨k,rfl⟩:=Int.eq_ofNat_of_zero_le c0
  have:=andq15 ⟨k,by omega⟩
  rw[←hq]
  exact this
 have hMb:192≤M∧M<256:=by
  obtain⟨k,rfl⟩:=Int.eq_ofNat_of_zero_le m0
  have:=or192 ⟨k,by omega⟩
  rw[←hM]
  exact this
 have hq16:q<16:=by omega
 have hO1:bits .or .u8 64 (q:Int)=64+(q:Int):=(or64 ⟨q,hq16⟩).1
 have hO2:bits .or .u8 144 (q:Int)=144+(q:Int):=(or64 ⟨q,hq16⟩).2
 have HMB:=Lib.hid hMb
 have HC1:=Lib.hid (cmv_dec 64 (.inl rfl) q hq16 M hMb.1 hMb.2)
 have HC2:=Lib.hid (cmv_dec 144 (.inr rfl) q hq16 M hMb.1 hMb.2)
 have HD:=Lib.hid (And.intro d0 d1)
 have HQ:=Lib.hid hq16
 clear hr hx f0 f1 m0 m1 c0 c1 hq hMb hq16
 obtain⟨ie,hie,hz,hsz⟩:∃ie,Tryz.prog.info? 9=some ie∧ie.zero=some (.string ⟨#[]⟩)∧ie.size=1:=by
  have h:(Tryz.prog.info? 9).map (fun i=>(i.zero,i.size))=some (some (.string ⟨#[]⟩),1):=by kernel_rfl
  cases hi:Tryz.prog.info? 9 with
  |none=>rw[hi]at h;cases h
  |some i=>
   rw[hi]at h
   simp only[Option.map_some,Option.some.injEq,Prod.mk.injEq]at h
   exact⟨i,rfl,h.1,h.2⟩
 have HIE:=Lib.hid (And.intro hie (And.intro hz hsz))
 clear hie hz hsz
 go_enter Tryz.func4,Tryz.ntmps4
 obtain⟨W,hW⟩:∃W,W=(w.alloc (.cells (rowL_u32 r).toArray 23)).alloc (.cells (rowL_u64 x).toArray 27):=⟨_,rfl⟩
 have HW:=Lib.hid (show _∧_ from heap_two hW)
 go_upto_region 1 with fail
 show Code.wp _ _ _ _ ((w.alloc (.cells (rowL_u32 r).toArray 23)).alloc (.cells (rowL_u64 x).toArray 27))
 rw[←hW]
 clear hW
 go_wp2_with fail
 ((with_reducible refine(HK.out _).mono ?_);rintro e w1 ⟨rfl,b1⟩)
 have HR4:=Lib.hid (range_in13 ((b1.block _ (Array.getElem?_eq_some_iff.1 HW.out.1).1).trans HW.out.1) 0 (rowL_u32 r) rfl)
 have HR8:=Lib.hid (range_in13 ((b1.block _ (Array.getElem?_eq_some_iff.1 HW.out.2.1).1).trans HW.out.2.1) 0 (rowL_u64 x) rfl)
 have HB1:=Lib.hid (HW.out.2.2.trans (b1.mono HW.out.2.2.size))
 clear b1
 go_wp2_with (first
  |(refine wpList_load_mid rfl 23 (.tmp 6) rfl w.heap.size 0 rfl (rowL_u32 r) _ HR4.out Tryz.underlying23 rfl info_r4b ?_)
  |(refine wpList_load_mid rfl 27 (.tmp 7) rfl (w.heap.size+1) 0 rfl (rowL_u64 x) _ HR8.out Tryz.underlying27 rfl info_r8b ?_))
 ((with_reducible refine(HST.out _).mono ?_);rintro e w2 ⟨s,rfl,hs,b2⟩)
 have HSOK:=Lib.hid hs
 have HB2:=Lib.hid (below_step HB1.out b2)
 have HTH:=Lib.hid (there_alloc_new w2 staZA 29 23 (by decide))
 clear b2 hs
 go_upto_region 4 with(refine store_row rfl 29 (.tmp 13) (.tmp 28) rfl w2.heap.size rfl (staL s) rfl _ Tryz.underlying29 rfl info_sta (sta_one s) HTH.out ?_;intro V hV hl;clear hl;have HV:=Lib.hid (show Below w2.heap.size w2 V∧V.rangeAt w2.heap.size 0 (staL s)∧w2.heap.size<V.heap.size by rw[hV];exact⟨below_setCells (Nat.le_refl _) _ _ _ (below_last (Below.refl _ _) _),World.rangeAt_setCells_same _ _ _ _ HTH.out,by rw[setCells_size];simp⟩);clear hV)
 have HB3:=Lib.hid (below_step HB2.out HV.out.1)
 clear HTH
 go_wp2_with (refine wpList_buildSlice rfl 43 9 33 _ rfl regsA ie (.string ⟨#[]⟩) Tryz.underlying43 HIE.out.1 HIE.out.2.1 (by rw[HIE.out.2.2];decide) (by rw[HIE.out.2.2];decide) (by rw[HIE.out.2.2];kernel_rfl) ?_)
 obtain⟨U,hU⟩:∃U,U=V.alloc (.cells regsA 9):=⟨_,rfl⟩
 have HU:=Lib.hid (show Below V.heap.size V U∧∀n,n<33→U.cell? ⟨V.heap.size,n,none⟩=some (hdS (rgF n))by rw[hU];exact⟨below_last (Below.refl _ _) _,fun n hn=>(World.cell?_alloc_new _ _ _ _).trans (rg_at n hn)⟩)
 have HUZ:=Lib.hid (show V.heap.size<U.heap.size by rw[hU];simp)
 rw[←hU]
 clear hU
 have HBU:=Lib.hid (below_step HB3.out HU.out.1)
 have HSU:=Lib.hid (fun u (hu:Below U.heap.size U u)=>(show u.rangeAt w2.heap.size 0 (staL s)from fun j v hj=>(hu.cell (p:=⟨w2.heap.size,0+j,none⟩) (Nat.lt_trans HV.out.2.2 HUZ.out)).trans ((HU.out.1.cell (p:=⟨w2.heap.size,0+j,none⟩) HV.out.2.2).trans (HV.out.2.1 j v hj))))
 go_loopw [33] (fun v wr=>∃n:Nat,n≤33∧v=.int .i64 n∧Below U.heap.size U wr) (fun v _=>33-(intOf v).toNat)
 case atStart=>exact⟨0,by omega,rfl,Below.refl _ _⟩
 case round=>
  obtain⟨n,hn,rfl,hb⟩:=hrel
  obtain⟨wo,rfl⟩:∃wo:World,wo=wr:=⟨_,rfl⟩
  have HB:=Lib.hid hb
  clear hb
  by_cases hlt:n<33
  ·have hd:decide ((n:Int)<33)=true:=decide_eq_true (by omega)
   have n33:(n:Int)<33:=by omega
   have HO:=Lib.hid (rg_ok n hlt)
   have hc:wo.cell? ⟨V.heap.size,n,none⟩=some (hdS (rgF n)):=(HB.out.cell (p:=⟨V.heap.size,n,none⟩) HUZ.out).trans (HU.out.2 n hlt)
   have d0:=HD.out.1
   have d1:=HD.out.2
   go_wp2_with (first
    |(refine convert_ownB rfl (.tmp 38) rfl wo.heap.size (rgF n) rfl HO.out.2.2 (by have:=HO.out.2.1;omega) (Nat.le_refl _) ?_;intro v1 w1' ho hb hs;have HO1:=Lib.hid ho;have HB1':=Lib.hid (hb _ (Below.refl _ _));clear ho hb hs)
    |(at_builtin;refine append_ownB rfl (.tmp 39) (.tmp 46) rfl wo.heap.size v1 (.slice (some ⟨w1'.heap.size,0,none⟩) 5 5) (rgF n) [M,d%256,d/256%256,0,0] rfl rfl (HO1.out.below (below_last (Below.refl _ _) _)) (slc_new w1' _ _ 5 5 _ (Nat.le_refl _) (by intro i hi;match i,hi with|0,_=>rfl|1,_=>rfl|2,_=>rfl|3,_=>rfl|4,_=>rfl)) (by simp) (by have:=HO.out.2.1;simp;omega) (by have:=HB1'.out.size;simp at this ⊢;omega) ?_;intro v2 w2' ho _ hb hs;have HO2:=Lib.hid ho;have HB2':=Lib.hid (hb _ (HB1'.out.alloc (by have:=HB1'.out.size;omega) _));clear ho hb hs))
   have lok:∀z∈rgF n++[M,d%256,d/256%256,0,0],0≤z∧z<256:=by
    intro z hz
    rcases List.mem_append.1 hz with h|h
    ·exact HO.out.2.2 z h
    ·have hm:=HMB.out
     simp only[List.mem_cons,List.not_mem_nil,or_false]at h
     rcases h with rfl|rfl|rfl|rfl|rfl<;>omega
   have HLOK:=Lib.hid (lst_ok lok)
   have HLEN:=Lib.hid (show(rgF n++[M,d%256,d/256%256,0,0]).length≤1099511627776 by have:=HO.out.2.1;simp;omega)
   clear lok d0 d1 hc
   ((with_reducible refine(HONE.out _ _ _ HLOK.out HLEN.out _ HO2.out.slc).mono ?_);rintro e w3 ⟨rfl,b3⟩)
   obtain⟨y,hy⟩:∃y,oneF (rgF n++[M,d%256,d/256%256,0,0]).length (lst (rgF n++[M,d%256,d/256%256,0,0]))=y:=⟨_,rfl⟩
   obtain⟨I,E⟩:=y
   rw[hy]
   have HY:=Lib.hid hy
   have HB3':=Lib.hid (below_step HB2'.out b3)
   clear b3 hy
   unfold insR
   dsimp only
   rw[show insV I=.agg (insL I).toArray from rfl]
   have HTH:=Lib.hid (there_alloc_new w3 zeroA 34 18 (by decide))
   go_upto_region 9 with(refine store_row rfl 34 (.tmp 17) (.tmp 49) rfl w3.heap.size rfl (insL I) rfl _ Tryz.underlying34 rfl info_ins (ins_one _) HTH.out ?_;intro VI hV hl;clear hl;have HVI:=Lib.hid (show Below w3.heap.size w3 VI∧VI.rangeAt w3.heap.size 0 (insL I)∧w3.heap.size<VI.heap.size by rw[hV];exact⟨below_setCells (Nat.le_refl _) _ _ _ (below_last (Below.refl _ _) _),World.rangeAt_setCells_same _ _ _ _ HTH.out,by rw[setCells_size];simp⟩);clear hV)
   have HBV1:=Lib.hid (below_step HB.out (below_step HB3'.out HVI.out.1))
   by_cases hE:E=0
   ·subst hE
    have c0:VI.cell? ⟨w3.heap.size,0,none⟩=some (.int .i64 I.op):=HVI.out.2.1 0 _ rfl
    have HIA:=Lib.hid (fun u=>risalu_any I.op u)
    obtain⟨a,ha⟩:∃a,isAluB I.op=a:=⟨_,rfl⟩
    rw[ha]at HIA
    have HA2:=Lib.hid ha
    clear ha
    go_wp2_with fail
    ((with_reducible refine(HIA.out _).mono ?_);rintro e w4 ⟨rfl,rfl⟩)
    cases a with
    |false=>
     clear c0
     go_wp2_with fail
     go_roundw
     case rel=>exact⟨n+1,by omega,by go_num,HBV1.out⟩
     case measure=>simp[intOf];omega
    |true=>
     have HDI:=Lib.hid (show DecI I from⟨⟨_,_,HLOK.out,HY.out⟩,HA2.out⟩)
     clear c0
     go_wp2_with (first
      |(refine wpList_met (by rfl) ?_;refine wpList_load_mid rfl 29 (.tmp 13) rfl w2.heap.size 0 rfl (staL s) _ (HSU.out _ HBV1.out) Tryz.underlying29 rfl info_sta ?_)
      |(refine wpList_met (by rfl) ?_;refine wpList_load_mid rfl 34 (.tmp 17) rfl w3.heap.size 0 rfl (insL I) _ HVI.out.2.1 Tryz.underlying34 rfl info_ins ?_))
     ((with_reducible refine(HSA.out s I HSOK.out HDI.out _).mono ?_);rintro e w5 ⟨rfl,b5⟩)
     have HB5:=Lib.hid (below_step HBV1.out b5)
     clear b5
     go_wp2_with fail
     go_roundw
     case rel=>exact⟨n+1,by omega,by go_num,HB5.out⟩
     case measure=>simp[intOf];omega
   ·have hne:(E==0)=false:=by simpa using hE
    clear hE
    go_wp2_with fail
    go_roundw
    case rel=>exact⟨n+1,by omega,by go_num,HBV1.out⟩
    case measure=>simp[intOf];omega
  ·have hd:decide ((n:Int)<33)=false:=decide_eq_false (by omega)
   obtain⟨I,hI,dI⟩:=HC1.out
   obtain⟨J,hJ,dJ⟩:=HC2.out
   have HI1:=Lib.hid (And.intro hI dI)
   have HJ1:=Lib.hid (And.intro hJ dJ)
   clear hI dI hJ dJ
   have lok:∀p:Int,p=64∨p=144→∀z∈[15,p+(q:Int),M],0≤z∧z<256:=by
    intro p hp z hz
    have hm:=HMB.out
    have hq:=HQ.out
    simp only[List.mem_cons,List.not_mem_nil,or_false]at hz
    rcases hz with rfl|rfl|rfl
    ·omega
    ·rcases hp with rfl|rfl<;>omega
    ·omega
   have HL1:=Lib.hid (lst_ok (lok 64 (.inl rfl)))
   have HL2:=Lib.hid (lst_ok (lok 144 (.inr rfl)))
   clear lok
   go_wp2_with fail
   ((with_reducible refine(HONE.out _ 3 (lst [15,64+(q:Int),M]) HL1.out (by decide) _ (slc_new wo _ _ 3 3 _ (Nat.le_refl _) (by intro i hi;rcases(show i=0∨i=1∨i=2 by omega)with rfl|rfl|rfl<;>simp[lst]))).mono ?_);rintro e w3 ⟨rfl,b3⟩)
   rw[HI1.out.1]
   have HB3':=Lib.hid (below_step HB.out (below_step (below_last (Below.refl _ _) _) b3))
   clear b3
   unfold insR
   dsimp only
   rw[show insV I=.agg (insL I).toArray from rfl]
   have HTH:=Lib.hid (there_alloc_new w3 zeroA 34 18 (by decide))
   go_upto_region 13 with(refine store_row rfl 34 (.tmp 19) (.tmp 72) rfl w3.heap.size rfl (insL I) rfl _ Tryz.underlying34 rfl info_ins (ins_one _) HTH.out ?_;intro VI hV hl;clear hl;have HVI:=Lib.hid (show Below w3.heap.size w3 VI∧VI.rangeAt w3.heap.size 0 (insL I)∧w3.heap.size<VI.heap.size by rw[hV];exact⟨below_setCells (Nat.le_refl _) _ _ _ (below_last (Below.refl _ _) _),World.rangeAt_setCells_same _ _ _ _ HTH.out,by rw[setCells_size];simp⟩);clear hV)
   have HBV1:=Lib.hid (below_step HB3'.out HVI.out.1)
   go_wp2_with fail
   ((with_reducible refine(HONE.out _ 3 (lst [15,144+(q:Int),M]) HL2.out (by decide) _ (slc_new VI _ _ 3 3 _ (Nat.le_refl _) (by intro i hi;rcases(show i=0∨i=1∨i=2 by omega)with rfl|rfl|rfl<;>simp[lst]))).mono ?_);rintro e w5 ⟨rfl,b5⟩)
   rw[HJ1.out.1]
   have HBI5:=Lib.hid (below_step (below_last (Below.refl _ _) _) b5)
   have HB5:=Lib.hid (below_step HBV1.out HBI5.out)
   clear b5
   unfold insR
   dsimp only
   rw[show insV J=.agg (insL J).toArray from rfl]
   have HTH:=Lib.hid (there_alloc_new w5 zeroA 34 18 (by decide))
   go_upto_region 14 with(refine store_row rfl 34 (.tmp 21) (.tmp 81) rfl w5.heap.size rfl (insL J) rfl _ Tryz.underlying34 rfl info_ins (ins_one _) HTH.out ?_;intro VJ hV hl;clear hl;have HVJ:=Lib.hid (show Below w5.heap.size w5 VJ∧VJ.rangeAt w5.heap.size 0 (insL J)∧w5.heap.size<VJ.heap.size by rw[hV];exact⟨below_setCells (Nat.le_refl _) _ _ _ (below_last (Below.refl _ _) _),World.rangeAt_setCells_same _ _ _ _ HTH.out,by rw[setCells_size];simp⟩);clear hV)
   have HB6:=Lib.hid (below_step HB5.out HVJ.out.1)
   have HRI:=Lib.hid (show VJ.rangeAt w3.heap.size 0 (insL I)from fun j v hj=>((below_step HBI5.out HVJ.out.1).cell (p:=⟨w3.heap.size,0+j,none⟩) HVI.out.2.2).trans (HVI.out.2.1 j v hj))
   go_wp2_with (first
    |(refine wpList_met (by rfl) ?_;refine wpList_load_mid rfl 29 (.tmp 13) rfl w2.heap.size 0 rfl (staL s) _ (HSU.out _ HB6.out) Tryz.underlying29 rfl info_sta ?_)
    |(refine wpList_met (by rfl) ?_;refine wpList_load_mid rfl 34 (.tmp 19) rfl w3.heap.size 0 rfl (insL I) _ HRI.out Tryz.underlying34 rfl info_ins ?_))
   ((with_reducible refine(HSA.out s I HSOK.out HI1.out.2 _).mono ?_);rintro e w7 ⟨rfl,b7⟩)
   have HB7:=Lib.hid (below_step HB6.out b7)
   have HRJ:=Lib.hid (show w7.rangeAt w5.heap.size 0 (insL J)from fun j v hj=>(b7.cell (p:=⟨w5.heap.size,0+j,none⟩) HVJ.out.2.2).trans (HVJ.out.2.1 j v hj))
   clear b7
   go_wp2_with (first
    |(refine wpList_met (by rfl) ?_;refine wpList_load_mid rfl 29 (.tmp 13) rfl w2.heap.size 0 rfl (staL s) _ (HSU.out _ HB7.out) Tryz.underlying29 rfl info_sta ?_)
    |(refine wpList_met (by rfl) ?_;refine wpList_load_mid rfl 34 (.tmp 21) rfl w5.heap.size 0 rfl (insL J) _ HRJ.out Tryz.underlying34 rfl info_ins ?_))
   ((with_reducible refine(HSA.out s J HSOK.out HJ1.out.2 _).mono ?_);rintro e w8 ⟨rfl,b8⟩)
   have HB8:=Lib.hid (below_step HBU.out (below_step HB7.out b8))
   clear b8
   go_wp2_with fail
   go_returns
   exact⟨rfl,HB8.out⟩
end Go.Proofs.YtmdncgfheeijaaaGreat
