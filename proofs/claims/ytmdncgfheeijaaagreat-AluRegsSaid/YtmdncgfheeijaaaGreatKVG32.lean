import Derived.Test.YtmdncgfheeijaaaGreatKVG30
namespace Go.Proofs.YtmdncgfheeijaaaGreat
open Go.ChangeShapes Go.WideShapes Go.ChangeAt Go.RowKit
set_option maxRecDepth 100000
set_option maxHeartbeats 16000000
theorem times_any15{w1:World}{F0:Nat→Prop}{D b:Nat}{g:Int→Int}{cc dd:Sg}{t:Sta}{I:Ins}(ht:StaOk t)(hA:0≤I.a.disp∧I.a.disp<4294967296)(hB:0≤I.b.disp∧I.b.disp<4294967296)(hC:0≤I.c∧I.c<4294967296)(w:World)(hD:DM w1 F0 D b g cc dd t I w):
  Calls Tryz.prog 71 #[.pointer (some ⟨D,0,none⟩)] w fun e w'=>e=endO (timesZ g dd t I).e∧DM w1 F0 D b (timesZ g dd t I).g cc dd (timesZ g dd t I).t I w':=by
 have HSE:=Lib.hid (fun u (h:DM w1 F0 D b g cc dd t I u)=>second_any15 ht hB.1 hB.2 u h)
 have HBO:=Lib.hid (fun u (h:DM w1 F0 D b g cc dd t I u)=>both_any15 ht hA hB u h)
 have HKE:=Lib.hid (fun v v0 v1 c p z s o d u (h:DM w1 F0 D b g cc dd t I u)=>keep_any15 ht hA v v0 v1 c p z s o d u h)
 have HOK:=Lib.hid (fun K h k=>twoZ_ok (g:=g) (dd:=dd) (t:=t) (I:=I) (K:=K) h k)
 have HNO:=Lib.hid (fun K h=>twoZ_bad (g:=g) (dd:=dd) (t:=t) (I:=I) (K:=K) h)
 have hx:=cut_lo (aldV g dd t I.a I.size) I.size
 have hx1:=cut_hi (aldV g dd t I.a I.size) I.size
 have hy:=cut_lo (aldV g dd t I.b I.size) I.size
 have hy1:=cut_hi (aldV g dd t I.b I.size) I.size
 rw[show cut (aldV g dd t I.a I.size) I.size=lodV g dd t I.a I.size from rfl]at hx hx1
 rw[show cut (aldV g dd t I.b I.size) I.size=lodV g dd t I.b I.size from rfl]at hy hy1
 obtain⟨Ea,h1⟩:∃E,aldE dd t I.a I.size=E:=⟨_,rfl⟩
 obtain⟨x,h2⟩:∃X,lodV g dd t I.a I.size=X:=⟨_,rfl⟩
 obtain⟨Eb,h3⟩:∃E,aldE dd t I.b I.size=E:=⟨_,rfl⟩
 obtain⟨y,h4⟩:∃X,lodV g dd t I.b I.size=X:=⟨_,rfl⟩
 rw[h1,h2,h3,h4]at HBO HOK
 rw[h1,h3]at HNO
 rw[h2]at hx hx1
 rw[h4]at hy hy1
 have HD:=Lib.hid hD
 have hsz:=fun J h=>secZ_ok (g:=g) (dd:=dd) (t:=t) (I:=I) (J:=J) h
 have hsn:∀J,¬aldE dd t I.b I.size=0→secZ g dd t I J=⟨2,t,g⟩:=fun J h=>secZ_bad h
 rw[h3,h4]at HSE hsz
 rw[h3]at hsn
 clear h1 h2 h3 h4 ht hA hB hD
 by_cases hcd:I.cond=1
 ·have HB:=Lib.hid (show ¬Eb=0→timesZ g dd t I=⟨2,t,g⟩from fun h=>(if_pos hcd).trans (hsn _ h))
  have HZ:=Lib.hid (show Eb=0→timesZ g dd t I=mulZ g dd t I y I.c from fun h=>(if_pos hcd).trans (hsz _ h))
  clear HBO HOK HNO hsz hsn
  obtain⟨M,hM⟩:∃M,mulZ g dd t I y I.c=M:=⟨_,rfl⟩
  have HKE:=Lib.hid (show ∀u,DM w1 F0 D b g cc dd t I u→Calls Tryz.prog 66 #[.pointer (some ⟨D,0,none⟩),.int .u32 (imulL y I.c),.agg (flL (imulC y I.c) t.p t.z t.s (imulC y I.c) t.d).toArray] u fun e u'=>e=endO M.e∧DM w1 F0 D b M.g cc dd M.t I u' from fun u hu=>by rw[←hM];exact HKE.out (imulL y I.c) (by unfold imulL;omega) (by unfold imulL;omega) _ _ _ _ _ _ u hu)
  have HIM:=Lib.hid (show ∀u,Calls Tryz.prog 94 #[.agg (flL t.c t.p t.z t.s t.o t.d).toArray,.int .u32 y,.int .u32 I.c] u fun e u'=>e=.returned (.tuple #[.int .u32 (imulH y I.c),.int .u32 (imulL y I.c),.agg #[.bool (imulC y I.c),.bool t.p,.bool t.z,.bool t.s,.bool (imulC y I.c),.bool t.d]])∧Below u.heap.size u u' from fun u=>imul_any _ _ _ _ _ _ y I.c hy hy1 hC.1 hC.2 u)
  rw[hM]at HZ
  clear hM hC hx hx1 hy hy1
  obtain⟨X1,hX⟩:∃X1:Option Value,(Eb=0∧X1=some (.int .u32 (y)))∨(¬Eb=0∧X1=none):=by
   by_cases h:Eb=0
   ·exact⟨_,.inl ⟨h,rfl⟩⟩
   ·exact⟨_,.inr ⟨h,rfl⟩⟩
  have HX:=Lib.hid hX
  clear hX
  have c1:=HD.out.cond
  rw[hcd]at c1
  clear hcd
  go_enter Tryz.func71,Tryz.ntmps71
  go_wp2_with fail
  clear c1
  refine wp_region_auto (by kernel_rfl) (fun n=>false) (by kernel_rfl) (DB w w1 F0 D b g cc dd t I) [some (.pointer (some ⟨D,0,none⟩)),X1,some (.pointer (some ⟨D,0,none⟩)),some (.pointer (some ⟨D,0,none⟩)),some (.pointer (some ⟨D,0,none⟩)),some (.pointer (some ⟨D,15,none⟩)),some (.int .u32 (I.c)),X1,some (.int .u32 (I.c))]
   [(3,2,15),(4,3,16),(5,4,17),(6,5,18),(7,1,14),(8,6,19)] [(0,0),(2,0)] [1] (by decide) ?_ ?_ (DB.start HD.out) ?_ ?_
  ·repeat' apply And.intro
   all_goals first
    |trivial
    |exact⟨_,rfl,by kernel_rfl,rfl,rfl,rfl,fun _=>rfl,fun _ h=>⟨_,rfl,fun _ _=>by cases h;rfl⟩⟩
    |exact⟨_,rfl,by kernel_rfl,rfl,rfl,rfl,fun _=>rfl,fun _ h=>⟨_,h,fun _ _=>rfl⟩⟩
    |exact⟨_,rfl,by kernel_rfl,rfl,rfl,rfl,fun _=>rfl,fun _ h=>⟨_,rfl,fun _ hu=>by cases h;exact ld1 (lo_num hu.dm)⟩⟩
  ·repeat' apply And.intro
   all_goals first
    |trivial
    |exact⟨_,rfl,by kernel_rfl,rfl,fun _=>rfl,_,rfl,fun _ _=>rfl⟩
  ·intro n op f u hn ho hinv hdf hbase hdep
   obtain rfl:n=1:=by simpa using hn
   ·cases ho
    have e13:f.tmps.getD 13 undef=.pointer (some ⟨D,0,none⟩):=tab_at (hdep 0 (by kernel_rfl))
    rcases HX.out with⟨hE,x1⟩|⟨hE,x1⟩
    ·refine wp_call (by simp[execOp,Act.eval,e13,go_sem]<;>rfl) ((HSE.out u hinv.dm).mono ?_)
     rintro e u2 ⟨rfl,hb⟩
     rw[endL_ok hE]
     exact⟨_,rfl,_,rfl,hinv.below hb,x1⟩
    ·refine wp_call_or (by simp[execOp,Act.eval,e13,go_sem]<;>rfl) ((HSE.out u hinv.dm).mono ?_)
     rintro e u2 ⟨rfl,hb⟩
     exact .inr ⟨_,endL_bad hE,hdf,by rw[HB.out hE];rfl,by rw[HB.out hE];exact(hinv.below hb).dm⟩
  ·intro f u4 hinv hV
   have hx:=hV 1 (by decide)
   rcases HX.out with⟨hE,x1⟩|⟨hE,x1⟩
   ·have qa:f 7=.int .u32 y:=tab_at (x1.symm.trans (hV 7 (by decide)))
    have qb:f 8=.int .u32 I.c:=tab_at (hV 8 (by decide))
    clear hV hx x1
    simp only[List.size_toArray,List.length_cons,List.length_nil,Nat.reduceAdd,laid,List.getElem?_toArray,List.getElem?_cons_zero,List.getElem?_cons_succ,Option.bind_some,Act.put,List.setIfInBounds_toArray,List.set_cons_zero,List.set_cons_succ,qa,qb]
    clear qa qb
    have HM:=Lib.hid (HZ.out hE)
    have HD1:=Lib.hid hinv.dm
    clear hE hinv
    go_wp2_with (refine wpList_load_mid rfl 25 (.tmp 29) rfl D 28 rfl (flL t.c t.p t.z t.s t.o t.d) _ HD1.out.fls Tryz.underlying25 rfl info_fl15 ?_)
    ((with_reducible refine(HIM.out _).mono ?_);rintro e w3 ⟨rfl,b2⟩)
    have HD2:=Lib.hid (HD1.out.below b2)
    clear b2
    go_upto_region 5 with fail
    obtain⟨W,hW⟩:∃W,W=w3.alloc (.cells #[.bool (imulC y I.c),.bool t.p,.bool t.z,.bool t.s,.bool (imulC y I.c),.bool t.d] 25):=⟨_,rfl⟩
    rw[←hW]
    have HD3:=Lib.hid (show DM w1 F0 D b g cc dd t I W by rw[hW];exact HD2.out.alloc _)
    have HR:=Lib.hid (show W.rangeAt w3.heap.size 0 (flL (imulC y I.c) t.p t.z t.s (imulC y I.c) t.d)by rw[hW];exact range_in13 (heap_15 _ _) 0 _ rfl)
    clear hW
    go_wp2_with (refine wpList_load_mid rfl 25 (.tmp 6) rfl w3.heap.size 0 rfl (flL (imulC y I.c) t.p t.z t.s (imulC y I.c) t.d) _ HR.out Tryz.underlying25 rfl info_fl15 ?_)
    ((with_reducible refine(HKE.out _ HD3.out).mono ?_);rintro e w4 ⟨rfl,hd⟩)
    have HD4:=Lib.hid hd
    clear hd
    by_cases h:M.e=0
    ·rw[endO_ok h]
     have HE:=Lib.hid (endO_ok h)
     clear h
     go_wp2_with fail
     exact bodyPost_end (v:=.tuple #[]) (by simp[results,Tryz.results71]) rfl ⟨by rw[HM.out];exact HE.out.symm,by rw[HM.out];exact HD4.out⟩
    ·rw[endO_bad h]
     exact⟨rfl,by rw[HM.out];exact(endO_bad h).symm,by rw[HM.out];exact HD4.out⟩
   ·cases x1.symm.trans hx
 ·have e1:(I.cond==1)=false:=by simpa using hcd
  clear HSE hsz hsn
  by_cases hE:Ea=0∧Eb=0
  ·have HM:=Lib.hid (show timesZ g dd t I=mulZ g dd t I x y from(if_neg hcd).trans (HOK.out _ hE.1 hE.2))
   have HB:=Lib.hid (endB_ok (Xa:=x) (Xb:=y) hE.1 hE.2)
   rw[HB.out]at HBO
   clear hE HB HOK HNO hcd
   obtain⟨M,hM⟩:∃M,mulZ g dd t I x y=M:=⟨_,rfl⟩
   have HKE:=Lib.hid (show ∀u,DM w1 F0 D b g cc dd t I u→Calls Tryz.prog 66 #[.pointer (some ⟨D,0,none⟩),.int .u32 (imulL x y),.agg (flL (imulC x y) t.p t.z t.s (imulC x y) t.d).toArray] u fun e u'=>e=endO M.e∧DM w1 F0 D b M.g cc dd M.t I u' from fun u hu=>by rw[←hM];exact HKE.out (imulL x y) (by unfold imulL;omega) (by unfold imulL;omega) _ _ _ _ _ _ u hu)
   have HIM:=Lib.hid (show ∀u,Calls Tryz.prog 94 #[.agg (flL t.c t.p t.z t.s t.o t.d).toArray,.int .u32 x,.int .u32 y] u fun e u'=>e=.returned (.tuple #[.int .u32 (imulH x y),.int .u32 (imulL x y),.agg #[.bool (imulC x y),.bool t.p,.bool t.z,.bool t.s,.bool (imulC x y),.bool t.d]])∧Below u.heap.size u u' from fun u=>imul_any _ _ _ _ _ _ x y hx hx1 hy hy1 u)
   rw[hM]at HM
   clear hM hC hx hx1 hy hy1
   have c1:=HD.out.cond
   go_enter Tryz.func71,Tryz.ntmps71
   go_wp2_with fail
   ((with_reducible refine(HBO.out _ HD.out).mono ?_);rintro e w2 ⟨rfl,b1⟩)
   have HD1:=Lib.hid (HD.out.below b1)
   clear b1
   clear c1 e1
   go_wp2_with (refine wpList_load_mid rfl 25 (.tmp 29) rfl D 28 rfl (flL t.c t.p t.z t.s t.o t.d) _ HD1.out.fls Tryz.underlying25 rfl info_fl15 ?_)
   ((with_reducible refine(HIM.out _).mono ?_);rintro e w3 ⟨rfl,b2⟩)
   have HD2:=Lib.hid (HD1.out.below b2)
   clear b2
   go_upto_region 5 with fail
   obtain⟨W,hW⟩:∃W,W=w3.alloc (.cells #[.bool (imulC x y),.bool t.p,.bool t.z,.bool t.s,.bool (imulC x y),.bool t.d] 25):=⟨_,rfl⟩
   rw[←hW]
   have HD3:=Lib.hid (show DM w1 F0 D b g cc dd t I W by rw[hW];exact HD2.out.alloc _)
   have HR:=Lib.hid (show W.rangeAt w3.heap.size 0 (flL (imulC x y) t.p t.z t.s (imulC x y) t.d)by rw[hW];exact range_in13 (heap_15 _ _) 0 _ rfl)
   clear hW
   go_wp2_with (refine wpList_load_mid rfl 25 (.tmp 6) rfl w3.heap.size 0 rfl (flL (imulC x y) t.p t.z t.s (imulC x y) t.d) _ HR.out Tryz.underlying25 rfl info_fl15 ?_)
   ((with_reducible refine(HKE.out _ HD3.out).mono ?_);rintro e w4 ⟨rfl,hd⟩)
   have HD4:=Lib.hid hd
   clear hd
   by_cases h:M.e=0
   ·rw[endO_ok h]
    have HE:=Lib.hid (endO_ok h)
    clear h
    go_wp2_with fail
    exact bodyPost_end (v:=.tuple #[]) (by simp[results,Tryz.results71]) rfl ⟨by rw[HM.out];exact HE.out.symm,by rw[HM.out];exact HD4.out⟩
   ·rw[endO_bad h]
    exact⟨rfl,by rw[HM.out];exact(endO_bad h).symm,by rw[HM.out];exact HD4.out⟩
  ·have HZ:=Lib.hid (show timesZ g dd t I=⟨2,t,g⟩from(if_neg hcd).trans (HNO.out _ hE))
   rw[endB_bad hE]at HBO
   clear hE HOK HNO hcd
   have c1:=HD.out.cond
   go_enter Tryz.func71,Tryz.ntmps71
   go_wp2_with fail
   ((with_reducible refine(HBO.out _ HD.out).mono ?_);rintro e w2 ⟨rfl,b1⟩)
   have HD1:=Lib.hid (HD.out.below b1)
   clear b1
   exact⟨rfl,by rw[HZ.out];rfl,by rw[HZ.out];exact HD1.out⟩
end Go.Proofs.YtmdncgfheeijaaaGreat
