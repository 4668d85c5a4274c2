import Derived.Test.YtmdncgfheeijaaaGreatKVG30
namespace Go.Proofs.YtmdncgfheeijaaaGreat
open Go.ChangeShapes Go.WideShapes Go.ChangeAt Go.RowKit
set_option maxRecDepth 100000
theorem keep_fl15{w1:World}{F0:Nat→Prop}{D b:Nat}{g:Int→Int}{cc dd:Sg}{t:Sta}{I:Ins}(ht:StaOk t)(hA:0≤I.a.disp∧I.a.disp<4294967296)(v:Int)(v0:0≤v)(v1:v<4294967296)(c p z s o d:Bool)(w:World)(hD:DM w1 F0 D b g cc dd t I w):
  Calls Tryz.prog 66 #[.pointer (some ⟨D,0,none⟩),.int .u32 v,.agg (flL c p z s o d).toArray] w fun e w'=>e=endO (keepZ g dd t I v c p z s o).e∧DM w1 F0 D b (keepZ g dd t I v c p z s o).g cc dd (keepZ g dd t I v c p z s o).t I w':=keep_any15 ht hA v v0 v1 c p z s o d w hD
set_option maxHeartbeats 8000000
theorem move_18{w1:World}{F0:Nat→Prop}{D b:Nat}{g:Int→Int}{cc dd:Sg}{t:Sta}{I:Ins}(ht:StaOk t)(hA:0≤I.a.disp∧I.a.disp<4294967296)(hB:0≤I.b.disp∧I.b.disp<4294967296)(h:I.op=18)(w:World)(hD:DM w1 F0 D b g cc dd t I w):
  Calls Tryz.prog 75 #[.pointer (some ⟨D,0,none⟩)] w fun e w'=>e=endO (moveZ g dd t I).e∧DM w1 F0 D b (moveZ g dd t I).g cc dd (moveZ g dd t I).t I w':=by
 have HLb:=Lib.hid (fun u (h:DM w1 F0 D b g cc dd t I u)=>second_any15 ht hB.1 hB.2 u h)
 have hy0:=cut_lo (aldV g dd t I.b I.size) I.size
 have hy1:=cut_hi (aldV g dd t I.b I.size) I.size
 rw[show cut (aldV g dd t I.b I.size) I.size=lodV g dd t I.b I.size from rfl]at hy0 hy1
 have hz:=fun J=>secZ_ok (g:=g) (dd:=dd) (t:=t) (I:=I) (J:=J)
 have hn:∀J,¬aldE dd t I.b I.size=0→secZ g dd t I J=⟨2,t,g⟩:=fun J h=>secZ_bad h
 obtain⟨Eb,h1⟩:∃E,aldE dd t I.b I.size=E:=⟨_,rfl⟩
 obtain⟨y,h2⟩:∃X,lodV g dd t I.b I.size=X:=⟨_,rfl⟩
 rw[h1,h2]at HLb hz
 rw[h1]at hn
 rw[h2]at hy0 hy1
 have HB:=Lib.hid (show ¬Eb=0→moveZ g dd t I=⟨2,t,g⟩from fun e=>(show moveZ g dd t I=_ from(by unfold moveZ;rw[if_pos h])).trans (hn _ e))
 have HZ:=Lib.hid (show Eb=0→moveZ g dd t I=putZ g dd t I.a I.size y from fun e=>(show moveZ g dd t I=_ from(by unfold moveZ;rw[if_pos h])).trans (hz _ e))
 have HPU:=Lib.hid (fun u (hu:DM w1 F0 D b g cc dd t I u)=>put_any15 ht hA y hy0 hy1 u hu)
 obtain⟨M,hM⟩:∃M,putZ g dd t I.a I.size y=M:=⟨_,rfl⟩
 rw[hM]at HPU HZ
 have HD:=Lib.hid hD
 clear hM hz hn hy0 hy1 h1 h2 ht hA hB hD
 have c0:=HD.out.op
 rw[h]at c0
 clear h
 go_enter Tryz.func75,Tryz.ntmps75
 go_wp2_with fail
 ((with_reducible refine(HLb.out _ HD.out).mono ?_);rintro e w2 ⟨rfl,b1⟩)
 have HD1:=Lib.hid (HD.out.below b1)
 clear b1 c0
 by_cases hE:Eb=0
 ·have HM:=Lib.hid (HZ.out hE)
  rw[endL_ok hE]
  clear hE
  go_wp2_with fail
  ((with_reducible refine(HPU.out _ HD1.out).mono ?_);rintro e w3 ⟨rfl,hd⟩)
  have HD2:=Lib.hid hd
  clear hd
  by_cases h:M.e=0
  ·rw[endO_ok h]
   have HE:=Lib.hid (endO_ok h)
   clear h
   go_wp2_with fail
   exact bodyPost_end (v:=.tuple #[]) (by simp[results,Tryz.results75]) rfl ⟨by rw[HM.out];exact HE.out.symm,by rw[HM.out];exact HD2.out⟩
  ·rw[endO_bad h]
   exact⟨rfl,by rw[HM.out];exact(endO_bad h).symm,by rw[HM.out];exact HD2.out⟩
 ·have HM:=Lib.hid (HB.out hE)
  rw[endL_bad hE]
  exact⟨rfl,by rw[HM.out];rfl,by rw[HM.out];exact HD1.out⟩
theorem move_19{w1:World}{F0:Nat→Prop}{D b:Nat}{g:Int→Int}{cc dd:Sg}{t:Sta}{I:Ins}(ht:StaOk t)(hA:0≤I.a.disp∧I.a.disp<4294967296)(hB:0≤I.b.disp∧I.b.disp<4294967296)(h:I.op=19)(w:World)(hD:DM w1 F0 D b g cc dd t I w):
  Calls Tryz.prog 75 #[.pointer (some ⟨D,0,none⟩)] w fun e w'=>e=endO (moveZ g dd t I).e∧DM w1 F0 D b (moveZ g dd t I).g cc dd (moveZ g dd t I).t I w':=by
 have HLb:=Lib.hid (fun u (h:DM w1 F0 D b g cc dd t I u)=>second_any15 ht hB.1 hB.2 u h)
 have hy0:=cut_lo (aldV g dd t I.b I.size) I.size
 have hy1:=cut_hi (aldV g dd t I.b I.size) I.size
 rw[show cut (aldV g dd t I.b I.size) I.size=lodV g dd t I.b I.size from rfl]at hy0 hy1
 have hz:=fun J=>secZ_ok (g:=g) (dd:=dd) (t:=t) (I:=I) (J:=J)
 have hn:∀J,¬aldE dd t I.b I.size=0→secZ g dd t I J=⟨2,t,g⟩:=fun J h=>secZ_bad h
 obtain⟨Eb,h1⟩:∃E,aldE dd t I.b I.size=E:=⟨_,rfl⟩
 obtain⟨y,h2⟩:∃X,lodV g dd t I.b I.size=X:=⟨_,rfl⟩
 rw[h1,h2]at HLb hz
 rw[h1]at hn
 rw[h2]at hy0 hy1
 have HB:=Lib.hid (show ¬Eb=0→moveZ g dd t I=⟨2,t,g⟩from fun e=>(show moveZ g dd t I=_ from(by unfold moveZ;rw[if_neg (by omega),if_pos h])).trans (hn _ e))
 have HZ:=Lib.hid (show Eb=0→moveZ g dd t I=putZ g dd t I.a 4 y from fun e=>(show moveZ g dd t I=_ from(by unfold moveZ;rw[if_neg (by omega),if_pos h])).trans (hz _ e))
 have HST:=Lib.hid (fun u (hu:DM w1 F0 D b g cc dd t I u)=>store_any15 ht I.a hA.1 hA.2 4 y hy0 hy1 u hu)
 obtain⟨M,hM⟩:∃M,putZ g dd t I.a 4 y=M:=⟨_,rfl⟩
 rw[hM]at HST HZ
 rw[show opV I.a=.agg (opL' I.a).toArray from rfl]at HST
 have HD:=Lib.hid hD
 clear hM hz hn hy0 hy1 h1 h2 ht hA hB hD
 obtain⟨X1,hX⟩:∃X1:Option Value,(Eb=0∧X1=some (.int .u32 (y)))∨(¬Eb=0∧X1=none):=by
  by_cases h:Eb=0
  ·exact⟨_,.inl ⟨h,rfl⟩⟩
  ·exact⟨_,.inr ⟨h,rfl⟩⟩
 have HX:=Lib.hid hX
 clear hX
 have c0:=HD.out.op
 rw[h]at c0
 clear h
 go_enter Tryz.func75,Tryz.ntmps75
 go_wp2_with fail
 clear c0
 refine wp_region_autoT (by kernel_rfl) 8 _ rfl rfl (by kernel_rfl) (fun n=>false) (by kernel_rfl) (DB w w1 F0 D b g cc dd t I) [some (.pointer (some ⟨D,0,none⟩)),some (.pointer (some ⟨D,0,none⟩)),some (.pointer (some ⟨D,0,none⟩)),some (.pointer (some ⟨D,0,none⟩)),some (.pointer (some ⟨D,3,none⟩)),some (.agg (opL' I.a).toArray),some (.pointer (some ⟨D,0,none⟩)),X1,none]
  [(2,1,24),(3,2,25),(4,3,26),(5,4,27)] [(0,0),(1,0),(6,0)] [7] (by decide) ?_ ?_ (DB.start HD.out) ?_ ?_
 ·repeat' apply And.intro
  all_goals first
   |trivial
   |exact⟨_,rfl,by kernel_rfl,rfl,rfl,rfl,fun _=>rfl,fun _ h=>⟨_,rfl,fun _ _=>by cases h;rfl⟩⟩
   |exact⟨_,rfl,by kernel_rfl,rfl,rfl,rfl,fun _=>rfl,fun _ h=>⟨_,h,fun _ _=>rfl⟩⟩
   |exact⟨_,rfl,by kernel_rfl,rfl,rfl,rfl,fun _=>rfl,fun _ h=>⟨_,rfl,fun _ hu=>by cases h;exact ld1 (lo_a hu.dm)⟩⟩
 ·repeat' apply And.intro
  all_goals first
   |trivial
   |exact⟨_,rfl,by kernel_rfl,rfl,fun _=>rfl,_,rfl,fun _ _=>rfl⟩
 ·intro n op f u hn ho hinv hdf hbase hdep
  obtain rfl:n=7:=by simpa using hn
  ·cases ho
   have e29:f.tmps.getD 29 undef=.pointer (some ⟨D,0,none⟩):=tab_at (hdep 6 (by kernel_rfl))
   rcases HX.out with⟨hE,x1⟩|⟨hE,x1⟩
   ·refine wp_call (by simp[execOp,Act.eval,e29,go_sem]<;>rfl) ((HLb.out u hinv.dm).mono ?_)
    rintro e u2 ⟨rfl,hb⟩
    rw[endL_ok hE]
    exact⟨_,rfl,_,rfl,hinv.below hb,x1⟩
   ·refine wp_call_or (by simp[execOp,Act.eval,e29,go_sem]<;>rfl) ((HLb.out u hinv.dm).mono ?_)
    rintro e u2 ⟨rfl,hb⟩
    exact .inr ⟨_,endL_bad hE,hdf,by rw[HB.out hE];rfl,by rw[HB.out hE];exact(hinv.below hb).dm⟩
 ·intro f u hinv hV
  have hx:=hV 7 (by decide)
  rcases HX.out with⟨hE,x1⟩|⟨hE,x1⟩
  ·have HM:=Lib.hid (HZ.out hE)
   have c0:f 0=.pointer (some ⟨D,0,none⟩):=tab_at (hV 0 (by decide))
   have c5:f 5=.agg (opL' I.a).toArray:=tab_at (hV 5 (by decide))
   have c7:f 7=.int .u32 (y):=tab_at (x1.symm.trans (hV 7 (by decide)))
   refine wp_call_or (f:=88) (args:=#[f 0,f 5,.int .i64 4,f 7]) (by kernel_rfl) ?_
   rw[c0,c5,c7]
   refine(HST.out u hinv.dm).mono ?_
   rintro e u2 ⟨rfl,hd⟩
   by_cases h:M.e=0
   ·refine .inl ⟨_,endO_ok h,?_⟩
    unfold Exit.inBlock
    exact bodyPost_end (v:=.tuple #[]) (by simp[results,Tryz.results75]) (by kernel_rfl) ⟨by rw[HM.out];exact(endO_ok h).symm,by rw[HM.out];exact hd⟩
   ·exact .inr ⟨_,endO_bad h,by kernel_rfl,by rw[HM.out];exact(endO_bad h).symm,by rw[HM.out];exact hd⟩
  ·cases x1.symm.trans hx
theorem move_20{w1:World}{F0:Nat→Prop}{D b:Nat}{g:Int→Int}{cc dd:Sg}{t:Sta}{I:Ins}(ht:StaOk t)(hA:0≤I.a.disp∧I.a.disp<4294967296)(hB:0≤I.b.disp∧I.b.disp<4294967296)(h:I.op=20)(w:World)(hD:DM w1 F0 D b g cc dd t I w):
  Calls Tryz.prog 75 #[.pointer (some ⟨D,0,none⟩)] w fun e w'=>e=endO (moveZ g dd t I).e∧DM w1 F0 D b (moveZ g dd t I).g cc dd (moveZ g dd t I).t I w':=by
 have HLb:=Lib.hid (fun u (h:DM w1 F0 D b g cc dd t I u)=>second_any15 ht hB.1 hB.2 u h)
 have hy0:=cut_lo (aldV g dd t I.b I.size) I.size
 have hy1:=cut_hi (aldV g dd t I.b I.size) I.size
 rw[show cut (aldV g dd t I.b I.size) I.size=lodV g dd t I.b I.size from rfl]at hy0 hy1
 have hz:=fun J=>secZ_ok (g:=g) (dd:=dd) (t:=t) (I:=I) (J:=J)
 have hn:∀J,¬aldE dd t I.b I.size=0→secZ g dd t I J=⟨2,t,g⟩:=fun J h=>secZ_bad h
 obtain⟨Eb,h1⟩:∃E,aldE dd t I.b I.size=E:=⟨_,rfl⟩
 obtain⟨y,h2⟩:∃X,lodV g dd t I.b I.size=X:=⟨_,rfl⟩
 rw[h1,h2]at HLb hz
 rw[h1]at hn
 rw[h2]at hy0 hy1
 have HB:=Lib.hid (show ¬Eb=0→moveZ g dd t I=⟨2,t,g⟩from fun e=>(show moveZ g dd t I=_ from(by unfold moveZ;rw[if_neg (by omega),if_neg (by omega),if_pos h])).trans (hn _ e))
 have HZ:=Lib.hid (show Eb=0→moveZ g dd t I=putZ g dd t I.a 4 (sgn y I.size%4294967296)from fun e=>(show moveZ g dd t I=_ from(by unfold moveZ;rw[if_neg (by omega),if_neg (by omega),if_pos h])).trans (hz _ e))
 have HST:=Lib.hid (fun u (hu:DM w1 F0 D b g cc dd t I u)=>store_any15 ht I.a hA.1 hA.2 4 (sgn y I.size%4294967296) (by omega) (by omega) u hu)
 obtain⟨M,hM⟩:∃M,putZ g dd t I.a 4 (sgn y I.size%4294967296)=M:=⟨_,rfl⟩
 rw[hM]at HST HZ
 rw[show opV I.a=.agg (opL' I.a).toArray from rfl]at HST
 have HD:=Lib.hid hD
 clear hM hz hn hy0 hy1 h1 h2 ht hA hB hD
 obtain⟨X1,X2,hX⟩:∃X1 X2:Option Value,(Eb=0∧X1=some (.int .u32 (y))∧X2=some (.int .u32 (sgn y I.size%4294967296)))∨(¬Eb=0∧X1=none∧X2=none):=by
  by_cases h:Eb=0
  ·exact⟨_,_,.inl ⟨h,rfl,rfl⟩⟩
  ·exact⟨_,_,.inr ⟨h,rfl,rfl⟩⟩
 have HX:=Lib.hid hX
 clear hX
 have c0:=HD.out.op
 rw[h]at c0
 clear h
 go_enter Tryz.func75,Tryz.ntmps75
 go_wp2_with fail
 clear c0
 refine wp_region_autoT (by kernel_rfl) 14 _ rfl rfl (by kernel_rfl) (fun n=>false) (by kernel_rfl) (DB w w1 F0 D b g cc dd t I) [some (.pointer (some ⟨D,0,none⟩)),some (.pointer (some ⟨D,0,none⟩)),some (.pointer (some ⟨D,0,none⟩)),some (.pointer (some ⟨D,0,none⟩)),some (.pointer (some ⟨D,3,none⟩)),some (.agg (opL' I.a).toArray),some (.pointer (some ⟨D,0,none⟩)),X1,some (.pointer (some ⟨D,0,none⟩)),some (.pointer (some ⟨D,0,none⟩)),some (.pointer (some ⟨D,0,none⟩)),some (.pointer (some ⟨D,2,none⟩)),some (.int .i64 (I.size)),X2,none]
  [(2,1,35),(3,2,36),(4,3,37),(5,4,38),(9,8,42),(10,9,43),(11,10,44),(12,11,45)] [(0,0),(1,0),(6,0),(8,0)] [7,13] (by decide) ?_ ?_ (DB.start HD.out) ?_ ?_
 ·repeat' apply And.intro
  all_goals first
   |trivial
   |exact⟨_,rfl,by kernel_rfl,rfl,rfl,rfl,fun _=>rfl,fun _ h=>⟨_,rfl,fun _ _=>by cases h;rfl⟩⟩
   |exact⟨_,rfl,by kernel_rfl,rfl,rfl,rfl,fun _=>rfl,fun _ h=>⟨_,h,fun _ _=>rfl⟩⟩
   |exact⟨_,rfl,by kernel_rfl,rfl,rfl,rfl,fun _=>rfl,fun _ h=>⟨_,rfl,fun _ hu=>by cases h;exact ld1 (lo_a hu.dm)⟩⟩
   |exact⟨_,rfl,by kernel_rfl,rfl,rfl,rfl,fun _=>rfl,fun _ h=>⟨_,rfl,fun _ hu=>by cases h;exact ld1 (lo_size hu.dm)⟩⟩
 ·repeat' apply And.intro
  all_goals first
   |trivial
   |exact⟨_,rfl,by kernel_rfl,rfl,fun _=>rfl,_,rfl,fun _ _=>rfl⟩
 ·intro n op f u hn ho hinv hdf hbase hdep
  rcases(show n=7∨n=13 by simpa using hn)with rfl|rfl
  ·cases ho
   have e40:f.tmps.getD 40 undef=.pointer (some ⟨D,0,none⟩):=tab_at (hdep 6 (by kernel_rfl))
   rcases HX.out with⟨hE,x1,x2⟩|⟨hE,x1,x2⟩
   ·refine wp_call (by simp[execOp,Act.eval,e40,go_sem]<;>rfl) ((HLb.out u hinv.dm).mono ?_)
    rintro e u2 ⟨rfl,hb⟩
    rw[endL_ok hE]
    exact⟨_,rfl,_,rfl,hinv.below hb,x1⟩
   ·refine wp_call_or (by simp[execOp,Act.eval,e40,go_sem]<;>rfl) ((HLb.out u hinv.dm).mono ?_)
    rintro e u2 ⟨rfl,hb⟩
    exact .inr ⟨_,endL_bad hE,hdf,by rw[HB.out hE];rfl,by rw[HB.out hE];exact(hinv.below hb).dm⟩
  ·cases ho
   rcases HX.out with⟨hE,x1,x2⟩|⟨hE,x1,x2⟩
   ·have e41:f.tmps.getD 41 undef=.int .u32 (y):=tab_at (x1.symm.trans (hdep 7 (by kernel_rfl)))
    have e46:f.tmps.getD 46 undef=.int .i64 (I.size):=tab_at (hdep 12 (by kernel_rfl))
    refine wp_call (by simp[execOp,Act.eval,e41,e46,go_sem]<;>rfl) ((spread_any15 y I.size u).mono ?_)
    rintro e u2 ⟨rfl,rfl⟩
    exact⟨_,rfl,_,rfl,hinv,x2⟩
   ·cases x1.symm.trans (hdep 7 (by kernel_rfl))
 ·intro f u hinv hV
  have hx:=hV 7 (by decide)
  rcases HX.out with⟨hE,x1,x2⟩|⟨hE,x1,x2⟩
  ·have HM:=Lib.hid (HZ.out hE)
   have c0:f 0=.pointer (some ⟨D,0,none⟩):=tab_at (hV 0 (by decide))
   have c5:f 5=.agg (opL' I.a).toArray:=tab_at (hV 5 (by decide))
   have c13:f 13=.int .u32 (sgn y I.size%4294967296):=tab_at (x2.symm.trans (hV 13 (by decide)))
   refine wp_call_or (f:=88) (args:=#[f 0,f 5,.int .i64 4,f 13]) (by kernel_rfl) ?_
   rw[c0,c5,c13]
   refine(HST.out u hinv.dm).mono ?_
   rintro e u2 ⟨rfl,hd⟩
   by_cases h:M.e=0
   ·refine .inl ⟨_,endO_ok h,?_⟩
    unfold Exit.inBlock
    exact bodyPost_end (v:=.tuple #[]) (by simp[results,Tryz.results75]) (by kernel_rfl) ⟨by rw[HM.out];exact(endO_ok h).symm,by rw[HM.out];exact hd⟩
   ·exact .inr ⟨_,endO_bad h,by kernel_rfl,by rw[HM.out];exact(endO_bad h).symm,by rw[HM.out];exact hd⟩
  ·cases x1.symm.trans hx
theorem move_21{w1:World}{F0:Nat→Prop}{D b:Nat}{g:Int→Int}{cc dd:Sg}{t:Sta}{I:Ins}(ht:StaOk t)(hA:0≤I.a.disp∧I.a.disp<4294967296)(_hB:0≤I.b.disp∧I.b.disp<4294967296)(h:I.op=21)(w:World)(hD:DM w1 F0 D b g cc dd t I w):
  Calls Tryz.prog 75 #[.pointer (some ⟨D,0,none⟩)] w fun e w'=>e=endO (moveZ g dd t I).e∧DM w1 F0 D b (moveZ g dd t I).g cc dd (moveZ g dd t I).t I w':=by
 have HM:=Lib.hid (show moveZ g dd t I=putZ g dd t I.a I.size (ofF t I.b)by unfold moveZ;rw[if_neg (by omega),if_neg (by omega),if_neg (by omega),if_pos h])
 have HPU:=Lib.hid (fun u (hu:DM w1 F0 D b g cc dd t I u)=>put_any15 ht hA (ofF t I.b) (ofF_lo _ _) (ofF_hi _ _) u hu)
 have HOF:=Lib.hid (fun u=>of_any t I.b ht u)
 generalize ofF t I.b=A at HM HPU HOF
 obtain⟨M,hM⟩:∃M,putZ g dd t I.a I.size A=M:=⟨_,rfl⟩
 rw[hM]at HPU HM
 rw[show opV I.b=.agg (opL' I.b).toArray from rfl,show staV t=.agg (staL t).toArray from rfl]at HOF
 have HD:=Lib.hid hD
 clear hM ht hA hD
 have c0:=HD.out.op
 rw[h]at c0
 clear h
 go_enter Tryz.func75,Tryz.ntmps75
 go_wp2_with fail
 clear c0
 refine wp_region_autoT (by kernel_rfl) 11 _ rfl rfl (by kernel_rfl) (fun n=>false) (by kernel_rfl) (DB w w1 F0 D b g cc dd t I) [some (.pointer (some ⟨D,0,none⟩)),some (.pointer (some ⟨D,0,none⟩)),some (.pointer (some ⟨D,0,none⟩)),some (.pointer (some ⟨D,19,none⟩)),some (.agg (staL t).toArray),some (.pointer (some ⟨D,0,none⟩)),some (.pointer (some ⟨D,0,none⟩)),some (.pointer (some ⟨D,0,none⟩)),some (.pointer (some ⟨D,9,none⟩)),some (.agg (opL' I.b).toArray),some (.int .u32 (A)),none]
  [(2,1,52),(3,2,53),(4,3,54),(6,5,56),(7,6,57),(8,7,58),(9,8,59)] [(0,0),(1,0),(5,0)] [10] (by decide) ?_ ?_ (DB.start HD.out) ?_ ?_
 ·repeat' apply And.intro
  all_goals first
   |trivial
   |exact⟨_,rfl,by kernel_rfl,rfl,rfl,rfl,fun _=>rfl,fun _ h=>⟨_,rfl,fun _ _=>by cases h;rfl⟩⟩
   |exact⟨_,rfl,by kernel_rfl,rfl,rfl,rfl,fun _=>rfl,fun _ h=>⟨_,rfl,fun _ hu=>by cases h;exact ld1 (lo_b hu.dm)⟩⟩
   |exact⟨_,rfl,by kernel_rfl,rfl,rfl,rfl,fun _=>rfl,fun _ h=>⟨_,rfl,fun _ hu=>by cases h;exact ld1 (lo_sta hu.dm)⟩⟩
 ·repeat' apply And.intro
  all_goals first
   |trivial
   |exact⟨_,rfl,by kernel_rfl,rfl,fun _=>rfl,_,rfl,fun _ _=>rfl⟩
 ·intro n op f u hn ho hinv hdf hbase hdep
  obtain rfl:n=10:=by simpa using hn
  ·cases ho
   have e55:f.tmps.getD 55 undef=.agg (staL t).toArray:=tab_at (hdep 4 (by kernel_rfl))
   have e60:f.tmps.getD 60 undef=.agg (opL' I.b).toArray:=tab_at (hdep 9 (by kernel_rfl))
   refine wp_call (by simp[execOp,Act.eval,e55,e60,go_sem]<;>rfl) ((HOF.out u).mono ?_)
   rintro e u2 ⟨rfl,hb⟩
   exact⟨_,rfl,_,rfl,hinv.below hb,rfl⟩
 ·intro f u hinv hV
  have c0:f 0=.pointer (some ⟨D,0,none⟩):=tab_at (hV 0 (by decide))
  have c10:f 10=.int .u32 (A):=tab_at (hV 10 (by decide))
  refine wp_call_or (f:=64) (args:=#[f 0,f 10]) (by kernel_rfl) ?_
  rw[c0,c10]
  refine(HPU.out u hinv.dm).mono ?_
  rintro e u2 ⟨rfl,hd⟩
  by_cases h:M.e=0
  ·refine .inl ⟨_,endO_ok h,?_⟩
   unfold Exit.inBlock
   exact bodyPost_end (v:=.tuple #[]) (by simp[results,Tryz.results75]) (by kernel_rfl) ⟨by rw[HM.out];exact(endO_ok h).symm,by rw[HM.out];exact hd⟩
  ·exact .inr ⟨_,endO_bad h,by kernel_rfl,by rw[HM.out];exact(endO_bad h).symm,by rw[HM.out];exact hd⟩
theorem move_22{w1:World}{F0:Nat→Prop}{D b:Nat}{g:Int→Int}{cc dd:Sg}{t:Sta}{I:Ins}(ht:StaOk t)(hA:0≤I.a.disp∧I.a.disp<4294967296)(hB:0≤I.b.disp∧I.b.disp<4294967296)(h:I.op=22)(w:World)(hD:DM w1 F0 D b g cc dd t I w):
  Calls Tryz.prog 75 #[.pointer (some ⟨D,0,none⟩)] w fun e w'=>e=endO (moveZ g dd t I).e∧DM w1 F0 D b (moveZ g dd t I).g cc dd (moveZ g dd t I).t I w':=by
 have HBO:=Lib.hid (fun u (h:DM w1 F0 D b g cc dd t I u)=>both_any15 ht hA hB u h)
 have HKE:=Lib.hid (fun v v0 v1 c p z s o d u (h:DM w1 F0 D b g cc dd t I u)=>keep_any15 ht hA v v0 v1 c p z s o d u h)
 have HOK:=Lib.hid (fun K h k=>twoZ_ok (g:=g) (dd:=dd) (t:=t) (I:=I) (K:=K) h k)
 have HNO:=Lib.hid (fun K h=>twoZ_bad (g:=g) (dd:=dd) (t:=t) (I:=I) (K:=K) h)
 have hx:=cut_lo (aldV g dd t I.a I.size) I.size
 have hx1:=cut_hi (aldV g dd t I.a I.size) I.size
 have hy:=cut_lo (aldV g dd t I.b I.size) I.size
 have hy1:=cut_hi (aldV g dd t I.b I.size) I.size
 rw[show cut (aldV g dd t I.a I.size) I.size=lodV g dd t I.a I.size from rfl]at hx hx1
 rw[show cut (aldV g dd t I.b I.size) I.size=lodV g dd t I.b I.size from rfl]at hy hy1
 obtain⟨Ea,h1⟩:∃E,aldE dd t I.a I.size=E:=⟨_,rfl⟩
 obtain⟨x,h2⟩:∃X,lodV g dd t I.a I.size=X:=⟨_,rfl⟩
 obtain⟨Eb,h3⟩:∃E,aldE dd t I.b I.size=E:=⟨_,rfl⟩
 obtain⟨y,h4⟩:∃X,lodV g dd t I.b I.size=X:=⟨_,rfl⟩
 rw[h1,h2,h3,h4]at HBO HOK
 rw[h1,h3]at HNO
 rw[h2]at hx hx1
 rw[h4]at hy hy1
 have HD:=Lib.hid hD
 have HPU:=Lib.hid (fun u (hu:DM w1 F0 D b g cc dd t I u)=>put_any15 ht hA y hy hy1 u hu)
 have HSV:=Lib.hid (fun(g1:Int→Int) (t1:Sta) (ht1:StaOk t1) u (hu:DM w1 F0 D b g1 cc dd t1 I u)=>store_any15 ht1 I.b hB.1 hB.2 I.size x hx hx1 u hu)
 have hT1:StaOk (astS t I.a y):=by
  unfold astS
  split
  ·exact ht
  ·exact set_ok ht _ _ hy (by omega)
 have hZ0:Ea=0∧Eb=0→moveZ g dd t I=if astE dd t I.a I.size=0 then putZ (astG g dd t I.a I.size y) dd (astS t I.a y) I.b I.size x else⟨2,t,g⟩:=fun e=>(show moveZ g dd t I=xchgZ g dd t I from(by unfold moveZ;rw[if_neg (by omega),if_neg (by omega),if_neg (by omega),if_neg (by omega),if_pos h])).trans (HOK.out _ e.1 e.2)
 have HB:=Lib.hid (show ¬(Ea=0∧Eb=0)→moveZ g dd t I=⟨2,t,g⟩from fun e=>(show moveZ g dd t I=xchgZ g dd t I from(by unfold moveZ;rw[if_neg (by omega),if_neg (by omega),if_neg (by omega),if_neg (by omega),if_pos h])).trans (HNO.out _ e))
 rw[show opV I.b=.agg (opL' I.b).toArray from rfl]at HSV
 clear HKE HOK HNO h1 h2 h3 h4 hA hB hD
 have c0:=HD.out.op
 rw[h]at c0
 clear h
 by_cases hE:Ea=0∧Eb=0
 ·have HZ:=Lib.hid (hZ0 hE)
  have HBB:=Lib.hid (endB_ok (Xa:=x) (Xb:=y) hE.1 hE.2)
  rw[HBB.out]at HBO
  clear hE HBB HB hZ0 ht hx hx1 hy hy1
  by_cases h0:astE dd t I.a I.size=0
  ·have HM:=Lib.hid (HZ.out.trans (if_pos h0))
   rw[putZ_ok h0]at HPU
   have HSV:=Lib.hid (HSV.out (astG g dd t I.a I.size y) (astS t I.a y) hT1)
   obtain⟨M,hM⟩:∃M,putZ (astG g dd t I.a I.size y) dd (astS t I.a y) I.b I.size x=M:=⟨_,rfl⟩
   rw[hM]at HSV HM
   generalize astG g dd t I.a I.size y=g1 at *
   generalize astS t I.a y=t1 at *
   clear hM HZ h0 hT1
   go_enter Tryz.func75,Tryz.ntmps75
   go_wp2_with fail
   ((with_reducible refine(HBO.out _ HD.out).mono ?_);rintro e w2 ⟨rfl,b1⟩)
   have HD1:=Lib.hid (HD.out.below b1)
   clear b1
   clear c0
   go_wp2_with fail
   ((with_reducible refine(HPU.out _ HD1.out).mono ?_);rintro e w3 ⟨rfl,hd⟩)
   rw[endO_ok rfl]
   have HD2:=Lib.hid hd
   clear hd
   go_wp2_with fail
   refine wp_region_autoT (by kernel_rfl) 12 _ rfl rfl (by kernel_rfl) (fun n=>false) (by kernel_rfl) (DB w3 w1 F0 D b g1 cc dd t1 I) [some (.pointer (some ⟨D,0,none⟩)),some (.pointer (some ⟨D,0,none⟩)),some (.pointer (some ⟨D,0,none⟩)),some (.pointer (some ⟨D,0,none⟩)),some (.pointer (some ⟨D,9,none⟩)),some (.agg (opL' I.b).toArray),some (.pointer (some ⟨D,0,none⟩)),some (.pointer (some ⟨D,0,none⟩)),some (.pointer (some ⟨D,0,none⟩)),some (.pointer (some ⟨D,2,none⟩)),some (.int .i64 (I.size)),some (.int .u32 (x)),none]
    [(2,1,74),(3,2,75),(4,3,76),(5,4,77),(7,6,79),(8,7,80),(9,8,81),(10,9,82)] [(0,0),(1,0),(6,0),(11,3)] [] (by decide) ?_ ?_ (DB.start HD2.out) ?_ ?_
   ·repeat' apply And.intro
    all_goals first
     |trivial
     |exact⟨_,rfl,by kernel_rfl,rfl,rfl,rfl,fun _=>rfl,fun _ h=>⟨_,rfl,fun _ _=>by cases h;rfl⟩⟩
     |exact⟨_,rfl,by kernel_rfl,rfl,rfl,rfl,fun _=>rfl,fun _ h=>⟨_,rfl,fun _ hu=>by cases h;exact ld1 (lo_b hu.dm)⟩⟩
     |exact⟨_,rfl,by kernel_rfl,rfl,rfl,rfl,fun _=>rfl,fun _ h=>⟨_,rfl,fun _ hu=>by cases h;exact ld1 (lo_size hu.dm)⟩⟩
   ·repeat' apply And.intro
    all_goals first
     |trivial
     |exact⟨_,rfl,by kernel_rfl,rfl,fun _=>rfl,_,rfl,fun _ _=>rfl⟩
   ·exact fun _ _ _ _ h=>nomatch h
   ·intro f u hinv hV
    have c0:f 0=.pointer (some ⟨D,0,none⟩):=tab_at (hV 0 (by decide))
    have c5:f 5=.agg (opL' I.b).toArray:=tab_at (hV 5 (by decide))
    have c10:f 10=.int .i64 (I.size):=tab_at (hV 10 (by decide))
    have c11:f 11=.int .u32 (x):=tab_at (hV 11 (by decide))
    refine wp_call_or (f:=88) (args:=#[f 0,f 5,f 10,f 11]) (by kernel_rfl) ?_
    rw[c0,c5,c10,c11]
    refine(HSV.out u hinv.dm).mono ?_
    rintro e u2 ⟨rfl,hd⟩
    by_cases h:M.e=0
    ·refine .inl ⟨_,endO_ok h,?_⟩
     unfold Exit.inBlock
     exact bodyPost_end (v:=.tuple #[]) (by simp[results,Tryz.results75]) (by kernel_rfl) ⟨by rw[HM.out];exact(endO_ok h).symm,by rw[HM.out];exact hd⟩
    ·exact .inr ⟨_,endO_bad h,by kernel_rfl,by rw[HM.out];exact(endO_bad h).symm,by rw[HM.out];exact hd⟩
  ·have HM:=Lib.hid (HZ.out.trans (if_neg h0))
   rw[putZ_bad h0]at HPU
   clear HZ h0 hT1 HSV
   go_enter Tryz.func75,Tryz.ntmps75
   go_wp2_with fail
   ((with_reducible refine(HBO.out _ HD.out).mono ?_);rintro e w2 ⟨rfl,b1⟩)
   have HD1:=Lib.hid (HD.out.below b1)
   clear b1
   clear c0
   go_wp2_with fail
   ((with_reducible refine(HPU.out _ HD1.out).mono ?_);rintro e w3 ⟨rfl,hd⟩)
   rw[endO_bad (by decide)]
   exact⟨rfl,by rw[HM.out];rfl,by rw[HM.out];exact hd⟩
 ·have HM:=Lib.hid (HB.out hE)
  rw[endB_bad hE]at HBO
  clear hE hZ0 hT1 HB HSV HPU ht hx hx1 hy hy1
  go_enter Tryz.func75,Tryz.ntmps75
  go_wp2_with fail
  ((with_reducible refine(HBO.out _ HD.out).mono ?_);rintro e w2 ⟨rfl,b1⟩)
  have HD1:=Lib.hid (HD.out.below b1)
  clear b1
  exact⟨rfl,by rw[HM.out];rfl,by rw[HM.out];exact HD1.out⟩
theorem move_35{w1:World}{F0:Nat→Prop}{D b:Nat}{g:Int→Int}{cc dd:Sg}{t:Sta}{I:Ins}(ht:StaOk t)(hA:0≤I.a.disp∧I.a.disp<4294967296)(_hB:0≤I.b.disp∧I.b.disp<4294967296)(h:I.op=35)(k0:-9223372036854775808≤I.cond)(k1:I.cond≤9223372036854775807)(w:World)(hD:DM w1 F0 D b g cc dd t I w):
  Calls Tryz.prog 75 #[.pointer (some ⟨D,0,none⟩)] w fun e w'=>e=endO (moveZ g dd t I).e∧DM w1 F0 D b (moveZ g dd t I).g cc dd (moveZ g dd t I).t I w':=by
 have HM:=Lib.hid (show moveZ g dd t I=putZ g dd t I.a I.size (heldF t I.cond)by unfold moveZ;rw[if_neg (by omega),if_neg (by omega),if_neg (by omega),if_neg (by omega),if_neg (by omega),if_pos h])
 have HHE:=Lib.hid (fun u (hu:DM w1 F0 D b g cc dd t I u)=>held_any15 k0 k1 u hu)
 have hl:0≤heldF t I.cond∧heldF t I.cond<4294967296:=by unfold heldF;split<;>decide
 have HPU:=Lib.hid (fun u (hu:DM w1 F0 D b g cc dd t I u)=>put_any15 ht hA (heldF t I.cond) hl.1 hl.2 u hu)
 generalize heldF t I.cond=A at HM HPU HHE
 obtain⟨M,hM⟩:∃M,putZ g dd t I.a I.size A=M:=⟨_,rfl⟩
 rw[hM]at HPU HM
 have HD:=Lib.hid hD
 clear hM hl ht hA hD k0 k1
 have c0:=HD.out.op
 rw[h]at c0
 clear h
 go_enter Tryz.func75,Tryz.ntmps75
 go_wp2_with fail
 ((with_reducible refine(HHE.out _ HD.out).mono ?_);rintro e w2 ⟨rfl,b1⟩)
 have HD1:=Lib.hid (HD.out.below b1)
 clear b1 c0
 go_wp2_with fail
 ((with_reducible refine(HPU.out _ HD1.out).mono ?_);rintro e w3 ⟨rfl,hd⟩)
 have HD2:=Lib.hid hd
 clear hd
 by_cases h:M.e=0
 ·rw[endO_ok h]
  have HE:=Lib.hid (endO_ok h)
  clear h
  go_wp2_with fail
  exact bodyPost_end (v:=.tuple #[]) (by simp[results,Tryz.results75]) rfl ⟨by rw[HM.out];exact HE.out.symm,by rw[HM.out];exact HD2.out⟩
 ·rw[endO_bad h]
  exact⟨rfl,by rw[HM.out];exact(endO_bad h).symm,by rw[HM.out];exact HD2.out⟩
theorem move_36{w1:World}{F0:Nat→Prop}{D b:Nat}{g:Int→Int}{cc dd:Sg}{t:Sta}{I:Ins}(ht:StaOk t)(hA:0≤I.a.disp∧I.a.disp<4294967296)(hB:0≤I.b.disp∧I.b.disp<4294967296)(h:I.op=36)(k0:-9223372036854775808≤I.cond)(k1:I.cond≤9223372036854775807)(w:World)(hD:DM w1 F0 D b g cc dd t I w):
  Calls Tryz.prog 75 #[.pointer (some ⟨D,0,none⟩)] w fun e w'=>e=endO (moveZ g dd t I).e∧DM w1 F0 D b (moveZ g dd t I).g cc dd (moveZ g dd t I).t I w':=by
 have HLb:=Lib.hid (fun u (h:DM w1 F0 D b g cc dd t I u)=>second_any15 ht hB.1 hB.2 u h)
 have hy0:=cut_lo (aldV g dd t I.b I.size) I.size
 have hy1:=cut_hi (aldV g dd t I.b I.size) I.size
 rw[show cut (aldV g dd t I.b I.size) I.size=lodV g dd t I.b I.size from rfl]at hy0 hy1
 have hz:=fun J=>secZ_ok (g:=g) (dd:=dd) (t:=t) (I:=I) (J:=J)
 have hn:∀J,¬aldE dd t I.b I.size=0→secZ g dd t I J=⟨2,t,g⟩:=fun J h=>secZ_bad h
 obtain⟨Eb,h1⟩:∃E,aldE dd t I.b I.size=E:=⟨_,rfl⟩
 obtain⟨y,h2⟩:∃X,lodV g dd t I.b I.size=X:=⟨_,rfl⟩
 rw[h1,h2]at HLb hz
 rw[h1]at hn
 rw[h2]at hy0 hy1
 have HHE:=Lib.hid (fun u (hu:DM w1 F0 D b g cc dd t I u)=>held_any15 k0 k1 u hu)
 have HB:=Lib.hid (show ¬Eb=0→moveZ g dd t I=⟨2,t,g⟩from fun e=>(show moveZ g dd t I=_ from(by unfold moveZ;rw[if_neg (by omega),if_neg (by omega),if_neg (by omega),if_neg (by omega),if_neg (by omega),if_neg (by omega),if_pos h])).trans (hn _ e))
 have hZ:Eb=0→moveZ g dd t I=if condH I.cond t.c t.p t.z t.s t.o then putZ g dd t I.a I.size y else⟨0,t,g⟩:=fun e=>(show moveZ g dd t I=_ from(by unfold moveZ;rw[if_neg (by omega),if_neg (by omega),if_neg (by omega),if_neg (by omega),if_neg (by omega),if_neg (by omega),if_pos h])).trans (hz _ e)
 obtain⟨hc,hh⟩:∃hc,condH I.cond t.c t.p t.z t.s t.o=hc:=⟨_,rfl⟩
 have hf:heldF t I.cond=if hc then 1 else 0:=by rw[←hh];rfl
 rw[hf]at HHE
 rw[hh]at hZ
 have HZ:=Lib.hid hZ
 have HPU:=Lib.hid (fun u (hu:DM w1 F0 D b g cc dd t I u)=>put_any15 ht hA y hy0 hy1 u hu)
 obtain⟨M,hM⟩:∃M,putZ g dd t I.a I.size y=M:=⟨_,rfl⟩
 rw[hM]at HPU HZ
 have HD:=Lib.hid hD
 clear hM hZ hh hf hz hn hy0 hy1 h1 h2 ht hA hB hD k0 k1
 have c0:=HD.out.op
 rw[h]at c0
 clear h
 go_enter Tryz.func75,Tryz.ntmps75
 go_wp2_with fail
 ((with_reducible refine(HLb.out _ HD.out).mono ?_);rintro e w2 ⟨rfl,b1⟩)
 have HD1:=Lib.hid (HD.out.below b1)
 clear b1 c0
 by_cases hE:Eb=0
 ·have HM:=Lib.hid (HZ.out hE)
  rw[endL_ok hE]
  clear hE HZ HB
  cases hc with
  |true=>
   have HM1:=Lib.hid (HM.out.trans (if_pos rfl))
   clear HM
   go_wp2_with fail
   ((with_reducible refine(HHE.out _ HD1.out).mono ?_);rintro e w3 ⟨rfl,b1⟩)
   have HD2:=Lib.hid (HD1.out.below b1)
   clear b1
   go_wp2_with fail
   ((with_reducible refine(HPU.out _ HD2.out).mono ?_);rintro e w4 ⟨rfl,hd⟩)
   have HD3:=Lib.hid hd
   clear hd
   by_cases h:M.e=0
   ·rw[endO_ok h]
    have HE:=Lib.hid (endO_ok h)
    clear h
    go_wp2_with fail
    exact bodyPost_end (v:=.tuple #[]) (by simp[results,Tryz.results75]) rfl ⟨by rw[HM1.out];exact HE.out.symm,by rw[HM1.out];exact HD3.out⟩
   ·rw[endO_bad h]
    exact⟨rfl,by rw[HM1.out];exact(endO_bad h).symm,by rw[HM1.out];exact HD3.out⟩
  |false=>
   have HM1:=Lib.hid (HM.out.trans (if_neg (by decide)))
   clear HM
   go_wp2_with fail
   ((with_reducible refine(HHE.out _ HD1.out).mono ?_);rintro e w3 ⟨rfl,b1⟩)
   have HD2:=Lib.hid (HD1.out.below b1)
   clear b1
   go_wp2_with fail
   exact bodyPost_end (v:=.tuple #[]) (by simp[results,Tryz.results75]) rfl ⟨by rw[HM1.out];rfl,by rw[HM1.out];exact HD2.out⟩
 ·have HM:=Lib.hid (HB.out hE)
  rw[endL_bad hE]
  exact⟨rfl,by rw[HM.out];rfl,by rw[HM.out];exact HD1.out⟩
theorem move_37{w1:World}{F0:Nat→Prop}{D b:Nat}{g:Int→Int}{cc dd:Sg}{t:Sta}{I:Ins}(_ht:StaOk t)(_hA:0≤I.a.disp∧I.a.disp<4294967296)(_hB:0≤I.b.disp∧I.b.disp<4294967296)(h:I.op=37)(w:World)(hD:DM w1 F0 D b g cc dd t I w):
  Calls Tryz.prog 75 #[.pointer (some ⟨D,0,none⟩)] w fun e w'=>e=endO (moveZ g dd t I).e∧DM w1 F0 D b (moveZ g dd t I).g cc dd (moveZ g dd t I).t I w':=by
 have HM:=Lib.hid (show moveZ g dd t I=⟨0,{ t with r:=putN t.r 0 (sgn (t.r 0) 2%4294967296) },g⟩by unfold moveZ;rw[if_neg (by omega),if_neg (by omega),if_neg (by omega),if_neg (by omega),if_neg (by omega),if_neg (by omega),if_neg (by omega),if_pos h])
 have HSP:=Lib.hid (fun u=>spread_any15 (t.r 0) 2 u)
 generalize sgn (t.r 0) 2%4294967296=A at HM HSP
 have HD:=Lib.hid hD
 clear hD
 have c0:=HD.out.op
 rw[h]at c0
 clear h
 go_enter Tryz.func75,Tryz.ntmps75
 go_wp2_with fail
 clear c0
 refine wp_region_autoT (by kernel_rfl) 8 _ rfl rfl (by kernel_rfl) (fun n=>n==8) (by kernel_rfl) (DB w w1 F0 D b g cc dd t I) [some (.pointer (some ⟨D,19,none⟩)),some (.pointer (some ⟨D,19,none⟩)),some (.pointer (some ⟨D,19,none⟩)),some (.pointer (some ⟨D,19,none⟩)),some (.int .u32 (t.r 0)),some (.int .u32 (A)),some (.pointer (some ⟨D,19,none⟩)),some (.pointer (some ⟨D,19,none⟩)),none]
  [(2,1,105),(3,2,106),(4,3,107),(6,0,104),(7,6,110)] [(0,2),(1,2)] [5] (by decide) ?_ ?_ (DB.start HD.out) ?_ ?_
 ·repeat' apply And.intro
  all_goals first
   |trivial
   |exact⟨_,rfl,by kernel_rfl,rfl,rfl,rfl,fun _=>rfl,fun _ h=>⟨_,rfl,fun _ _=>by cases h;rfl⟩⟩
   |exact⟨_,rfl,by kernel_rfl,rfl,rfl,rfl,fun _=>rfl,fun _ h=>⟨_,rfl,fun _ hu=>by cases h;exact ld1 (lo_r0 hu.dm)⟩⟩
 ·repeat' apply And.intro
  all_goals first
   |trivial
   |exact⟨_,rfl,by kernel_rfl,rfl,fun _=>rfl,_,rfl,fun _ _=>rfl⟩
 ·intro n op f u hn ho hinv hdf hbase hdep
  obtain rfl:n=5:=by simpa using hn
  ·cases ho
   have e108:f.tmps.getD 108 undef=.int .u32 (t.r 0):=tab_at (hdep 4 (by kernel_rfl))
   refine wp_call (by simp[execOp,Act.eval,e108,go_sem]<;>rfl) ((HSP.out u).mono ?_)
   rintro e u2 ⟨rfl,rfl⟩
   exact⟨_,rfl,_,rfl,hinv,rfl⟩
 ·intro f u hinv hV
  have c7:f 7=.pointer (some ⟨D,19,none⟩):=tab_at (hV 7 (by decide))
  have c5:f 5=.int .u32 (A):=tab_at (hV 5 (by decide))
  have hc:=hinv.dm.get 19 _ rfl
  have hz:=hinv.dm.free 19
  have HY:=hinv.dm.cell (t':={ t with r:=putN t.r 0 A }) 19 (.int .u32 (A)) rfl (by kernel_rfl)
  generalize hfr:laid _ f _ _=fr
  have e111:fr.tmps.getD 111 undef=.pointer (some ⟨D,19,none⟩):=by rw[←hfr,←c7];kernel_rfl
  have e109:fr.tmps.getD 109 undef=.int .u32 (A):=by rw[←hfr,←c5];kernel_rfl
  have bd:fr.defers=[]:=by rw[←hfr];kernel_rfl
  refine wp_skip (u':=u.setCell ⟨D,19,none⟩ (.int .u32 (A))) (by simp[execOp,Act.eval,e111,e109,hc,hz,go_sem]<;>rfl) ?_
  unfold Exit.inBlock
  exact bodyPost_end (v:=.tuple #[]) (by simp[results,Tryz.results75]) bd ⟨by rw[HM.out];rfl,by rw[HM.out];exact HY⟩
theorem move_38{w1:World}{F0:Nat→Prop}{D b:Nat}{g:Int→Int}{cc dd:Sg}{t:Sta}{I:Ins}(ht:StaOk t)(_hA:0≤I.a.disp∧I.a.disp<4294967296)(_hB:0≤I.b.disp∧I.b.disp<4294967296)(h:I.op=38)(w:World)(hD:DM w1 F0 D b g cc dd t I w):
  Calls Tryz.prog 75 #[.pointer (some ⟨D,0,none⟩)] w fun e w'=>e=endO (moveZ g dd t I).e∧DM w1 F0 D b (moveZ g dd t I).g cc dd (moveZ g dd t I).t I w':=by
 have HM:=Lib.hid (show moveZ g dd t I=⟨0,{ t with r:=putN t.r 2 (cdqV (t.r 0)) },g⟩by unfold moveZ;rw[if_neg (by omega),if_neg (by omega),if_neg (by omega),if_neg (by omega),if_neg (by omega),if_neg (by omega),if_neg (by omega),if_neg (by omega),if_pos h])
 have h0:=ht.r 0 (by decide)
 have hv:(0-t.r 0/2147483648)%4294967296=cdqV (t.r 0):=by unfold cdqV;split<;>omega
 have HD:=Lib.hid hD
 clear ht hD
 have c0:=HD.out.op
 rw[h]at c0
 clear h
 go_enter Tryz.func75,Tryz.ntmps75
 go_wp2_with fail
 clear c0
 refine wp_region_autoT (by kernel_rfl) 9 _ rfl rfl (by kernel_rfl) (fun n=>n==9) (by kernel_rfl) (DB w w1 F0 D b g cc dd t I) [some (.pointer (some ⟨D,19,none⟩)),some (.pointer (some ⟨D,19,none⟩)),some (.pointer (some ⟨D,19,none⟩)),some (.pointer (some ⟨D,19,none⟩)),some (.int .u32 (t.r 0)),some (.int .u32 (t.r 0/2147483648)),some (.int .u32 ((0-t.r 0/2147483648)%4294967296)),some (.pointer (some ⟨D,19,none⟩)),some (.pointer (some ⟨D,21,none⟩)),none]
  [(2,1,115),(3,2,116),(4,3,117),(5,4,118),(6,5,119),(7,0,114),(8,7,121)] [(0,2),(1,2)] [] (by decide) ?_ ?_ (DB.start HD.out) ?_ ?_
 ·repeat' apply And.intro
  all_goals first
   |trivial
   |exact⟨_,rfl,by kernel_rfl,rfl,rfl,rfl,fun _=>rfl,fun _ h=>⟨_,rfl,fun _ _=>by cases h;rfl⟩⟩
   |exact⟨_,rfl,by kernel_rfl,rfl,rfl,rfl,fun _=>rfl,fun _ h=>⟨_,rfl,fun _ hu=>by cases h;exact ld1 (lo_r0 hu.dm)⟩⟩
   |exact⟨_,rfl,by kernel_rfl,rfl,rfl,rfl,fun _=>rfl,fun _ h=>⟨_,rfl,fun _ _=>by cases h;simp[execOp,envV,go_sem]⟩⟩
 ·repeat' apply And.intro
  all_goals first
   |trivial
   |exact⟨_,rfl,by kernel_rfl,rfl,fun _=>rfl,_,rfl,fun _ _=>rfl⟩
 ·exact fun _ _ _ _ h=>nomatch h
 ·intro f u hinv hV
  have c8:f 8=.pointer (some ⟨D,21,none⟩):=tab_at (hV 8 (by decide))
  have c6:f 6=.int .u32 ((0-t.r 0/2147483648)%4294967296):=tab_at (hV 6 (by decide))
  have hc:=hinv.dm.get 21 _ rfl
  have hz:=hinv.dm.free 21
  have HY:=hinv.dm.cell (t':={ t with r:=putN t.r 2 ((0-t.r 0/2147483648)%4294967296) }) 21 (.int .u32 ((0-t.r 0/2147483648)%4294967296)) rfl (by kernel_rfl)
  generalize hfr:laid _ f _ _=fr
  have e122:fr.tmps.getD 122 undef=.pointer (some ⟨D,21,none⟩):=by rw[←hfr,←c8];kernel_rfl
  have e120:fr.tmps.getD 120 undef=.int .u32 ((0-t.r 0/2147483648)%4294967296):=by rw[←hfr,←c6];kernel_rfl
  have bd:fr.defers=[]:=by rw[←hfr];kernel_rfl
  refine wp_skip (u':=u.setCell ⟨D,21,none⟩ (.int .u32 ((0-t.r 0/2147483648)%4294967296))) (by simp[execOp,Act.eval,e122,e120,hc,hz,go_sem]<;>rfl) ?_
  unfold Exit.inBlock
  exact bodyPost_end (v:=.tuple #[]) (by simp[results,Tryz.results75]) bd ⟨by rw[HM.out];rfl,by rw[HM.out,←hv];exact HY⟩
theorem move_50{w1:World}{F0:Nat→Prop}{D b:Nat}{g:Int→Int}{cc dd:Sg}{t:Sta}{I:Ins}(_ht:StaOk t)(_hA:0≤I.a.disp∧I.a.disp<4294967296)(_hB:0≤I.b.disp∧I.b.disp<4294967296)(h:I.op=50)(w:World)(hD:DM w1 F0 D b g cc dd t I w):
  Calls Tryz.prog 75 #[.pointer (some ⟨D,0,none⟩)] w fun e w'=>e=endO (moveZ g dd t I).e∧DM w1 F0 D b (moveZ g dd t I).g cc dd (moveZ g dd t I).t I w':=by
 have HM:=Lib.hid (show moveZ g dd t I=⟨0,t,g⟩by unfold moveZ;rw[if_neg (by omega),if_neg (by omega),if_neg (by omega),if_neg (by omega),if_neg (by omega),if_neg (by omega),if_neg (by omega),if_neg (by omega),if_neg (by omega)])
 have HD:=Lib.hid hD
 clear hD
 have c0:=HD.out.op
 rw[h]at c0
 clear h
 go_enter Tryz.func75,Tryz.ntmps75
 go_wp2_with fail
 exact bodyPost_end (v:=.tuple #[]) (by simp[results,Tryz.results75]) rfl ⟨by rw[HM.out];rfl,by rw[HM.out];exact HD.out⟩
end Go.Proofs.YtmdncgfheeijaaaGreat
