import Derived.Test.YtmdncgfheeijaaaGreatKVG12
import Derived.Test.YtmdncgfheeijaaaGreatKVG28
namespace Go.Proofs.YtmdncgfheeijaaaGreat
open Go.ChangeShapes Go.WideShapes Go.ChangeAt Go.RowKit
set_option maxRecDepth 100000
def endO(E:Int):Ending:=if E=0 then .returned (.tuple #[])else thrown E
section
variable {W:World} {F1 F F':Nat→Prop} {D b:Nat} {g g':Int→Int} {cc dd:Sg} {t:Sta} {I:Ins} {u:World} {B:Nat} {o:Opd} {n v:Int}
def SC(W:World)(F1:Nat→Prop)(D b:Nat)(g g':Int→Int)(cc dd:Sg)(t:Sta)(I:Ins)(u:World)(F:Nat→Prop):Prop:=DF W F1 D b g cc dd t I u F∨DF W F1 D b g' cc dd t I u F
def SF(W u:World)(F:Nat→Prop)(B:Nat):Prop:=W.heap.size≤B∧B<u.heap.size∧¬F B
theorem sc_dm(h:∃F,SC W F1 D b g g' cc dd t I u F):∃g0,DM W F1 D b g0 cc dd t I u:=h.elim fun F h=>h.elim (fun h=>⟨g,F,h⟩) (fun h=>⟨g',F,h⟩)
theorem sc_box(h:∃F,SC W F1 D b g g' cc dd t I u F)(hB:W.heap[B]?=some (.cells (opL' o).toArray 32 (0,0)))(hF:¬F1 B)(hD:B≠D):u.rangeAt B 0 (opL' o):=by
 obtain⟨F,h|h⟩:=h
 ·exact range_in13 ((h.but.block B (Array.getElem?_eq_some_iff.1 hB).1 (fun e=>e.elim hF hD)).trans hB) 0 _ rfl
 ·exact range_in13 ((h.but.block B (Array.getElem?_eq_some_iff.1 hB).1 (fun e=>e.elim hF hD)).trans hB) 0 _ rfl
theorem sc_new(hC:SC W F1 D b g g' cc dd t I u F)(T:TypeId)(cs:List Value)(o:Obj):SC W F1 D b g g' cc dd t I (u.alloc o) F∧SF W (u.alloc o) F u.heap.size∧KeptB (SF W) T cs (DF W F1 D b g' cc dd t I) u F (u.alloc o) F:=by
 have hb:=below_last (Below.refl u.heap.size u) o
 have hs:(u.alloc o).heap.size=u.heap.size+1:=by simp
 refine⟨hC.imp (fun h=>h.below hb) (fun h=>h.below hb),⟨hC.elim (fun h=>h.but.size) (fun h=>h.but.size),by omega,hC.elim (fun h=>h.fresh (Nat.le_refl _)) (fun h=>h.fresh (Nat.le_refl _))⟩,KeptB.of (fun h=>h.below hb) fun B hB=>⟨⟨hB.1,by have:=hB.2.1;omega,hB.2.2⟩,hb.block B hB.2.1⟩⟩
theorem sc_put(hC:SC W F1 D b g g' cc dd t I u F)(hB:SF W u F B)(cs:List Value):SC W F1 D b g g' cc dd t I (u.setCells B 0 cs) F∧(DF W F1 D b g' cc dd t I u F→DF W F1 D b g' cc dd t I (u.setCells B 0 cs) F)∧∀B',SF W u F B'→SF W (u.setCells B 0 cs) F B':=by
 have hb:But (·=B) u (u.setCells B 0 cs):=(But.refl (·=B) u).cells (fun _=>rfl) _ _
 exact⟨hC.imp (fun h=>h.other hb hB.2.2 hB.1) (fun h=>h.other hb hB.2.2 hB.1),fun h=>h.other hb hB.2.2 hB.1,fun B' h=>⟨h.1,by rw[setCells_size];exact h.2.1,h.2.2⟩⟩
theorem sc_call(ht:StaOk t)(d0:0≤o.disp)(d1:o.disp<4294967296)(n v:Int)(v0:0≤v)(v1:v<4294967296)(T:TypeId)(cs:List Value)(u:World)(F:Nat→Prop)(hC:SC W F1 D b g (astG g dd t o n v) cc dd t I u F):
  Calls Tryz.prog 121 #[.pointer (some ⟨b,0,none⟩),.agg (staL t).toArray,.agg (opL' o).toArray,.int .i64 n,.int .u64 v] u fun e u'=>e=.returned (.tuple #[.agg (staL (astS t o v)).toArray,.int .i64 (astE dd t o n)])∧∃F',DF W F1 D b (astG g dd t o n v) cc dd t I u' F'∧KeptB (SF W) T cs (DF W F1 D b (astG g dd t o n v) cc dd t I) u F u' F':=by
 have hgo:∀g0,astG g0 dd t o n v=astG g dd t o n v→DF W F1 D b g0 cc dd t I u F→Calls Tryz.prog 121 #[.pointer (some ⟨b,0,none⟩),.agg (staL t).toArray,.agg (opL' o).toArray,.int .i64 n,.int .u64 v] u fun e u'=>e=.returned (.tuple #[.agg (staL (astS t o v)).toArray,.int .i64 (astE dd t o n)])∧∃F',DF W F1 D b (astG g dd t o n v) cc dd t I u' F'∧KeptB (SF W) T cs (DF W F1 D b (astG g dd t o n v) cc dd t I) u F u' F':=fun g0 hg h=>by
  obtain⟨pg,hp⟩:=h.bus
  refine(astore_any b F g0 pg cc dd t o n v ht d0 d1 v0 (by omega) u hp).mono ?_
  rintro e u' ⟨F',pg',he,hn,hp',hb⟩
  rw[hg]at hp'
  refine⟨he,F',h.wrote hn ⟨pg',hp'⟩ hb,KeptB.of (fun h=>h.wrote hn ⟨pg',hp'⟩ hb) fun B hB=>⟨⟨hB.1,Nat.lt_of_lt_of_le hB.2.1 hb.size,fun q=>(hn B q).elim hB.2.2 (fun q=>by have:=hB.2.1;omega)⟩,hb.block B hB.2.1 hB.2.2⟩⟩
 rcases hC with h|h
 ·exact hgo g rfl h
 ·exact hgo _ (astG_twice g dd t o n v) h
end
set_option maxHeartbeats 8000000
theorem store_any15{w1:World}{F0:Nat→Prop}{D b:Nat}{g:Int→Int}{cc dd:Sg}{t:Sta}{I:Ins}(ht:StaOk t)(o:Opd)(d0:0≤o.disp)(d1:o.disp<4294967296)(n v:Int)(v0:0≤v)(v1:v<4294967296)(w:World)(hD:DM w1 F0 D b g cc dd t I w):
  Calls Tryz.prog 88 #[.pointer (some ⟨D,0,none⟩),opV o,.int .i64 n,.int .u32 v] w fun e w'=>e=endO (putZ g dd t o n v).e∧DM w1 F0 D b (putZ g dd t o n v).g cc dd (putZ g dd t o n v).t I w':=by
 obtain⟨F2,hD⟩:=hD
 have HST:=Lib.hid (fun(W:World) (F1:Nat→Prop) (T:TypeId) (cs:List Value) (u:World) (F:Nat→Prop) (hC:SC W F1 D b g (astG g dd t o n v) cc dd t I u F)=>sc_call ht d0 d1 n v v0 v1 T cs u F hC)
 obtain⟨E,hE⟩:∃E,astE dd t o n=E:=⟨_,rfl⟩
 obtain⟨T,hT⟩:∃T,astS t o v=T:=⟨_,rfl⟩
 obtain⟨G,hG⟩:∃G,astG g dd t o n v=G:=⟨_,rfl⟩
 have HOK:=Lib.hid (show E=0→putZ g dd t o n v=⟨0,T,G⟩from fun e=>by rw[putZ_ok (hE.trans e),hT,hG])
 have HNO:=Lib.hid (show ¬E=0→putZ g dd t o n v=⟨2,t,G⟩from fun e=>by rw[putZ_bad (fun h=>e (hE.symm.trans h)),←hG,astG_no (fun h=>e (hE.symm.trans h))])
 rw[hE,hT,hG]at HST
 have HD:=Lib.hid hD
 have hv:IntKind.u64.wrap v=v:=by rw[IntKind.wrap_u64];omega
 clear hE hT hG ht d0 d1 hD
 rw[show opV o=.agg #[.int .i64 o.kind,.int .i64 o.reg,.int .i64 o.base,.int .i64 o.index,.int .i64 o.scale,.int .u32 o.disp]from rfl]
 go_enter Tryz.func88,Tryz.ntmps88
 go_upto_region 1 with fail
 obtain⟨W,hW⟩:∃W,W=w.alloc (.cells #[.int .i64 o.kind,.int .i64 o.reg,.int .i64 o.base,.int .i64 o.index,.int .i64 o.scale,.int .u32 o.disp] 32):=⟨_,rfl⟩
 rw[←hW]
 have HW:=Lib.hid (show DF w1 F0 D b g cc dd t I W F2 by rw[hW];exact HD.out.below (below_last (Below.refl _ _) _))
 have HBX:=Lib.hid (show W.heap[w.heap.size]?=some (.cells (opL' o).toArray 32 (0,0))by rw[hW];show(w.heap.push _)[w.heap.size]?=_;simp[opL'])
 have HBD:=Lib.hid (show w.heap.size≠D by have:=HD.out.lt;omega)
 have HBF:=Lib.hid (HD.out.fresh (Nat.le_refl w.heap.size))
 clear hW
 refine wp_region_made (γ:=Nat→Prop) (by kernel_rfl) (fun n=>n==17) 16 17 12 rfl rfl (by decide) (by decide) (by kernel_rfl) (SC W F2 D b g G cc dd t I) F2 (SF W) (DF W F2 D b G cc dd t I) 29 (staL T) info_sta (sta_one T)
  [some (.pointer (some ⟨D,0,none⟩)),some (.pointer (some ⟨D,0,none⟩)),some (.pointer (some ⟨D,18,none⟩)),some (.pointer (some ⟨b,0,none⟩)),some (.pointer (some ⟨D,0,none⟩)),some (.pointer (some ⟨D,0,none⟩)),some (.pointer (some ⟨D,19,none⟩)),some (.agg (staL t).toArray),some (.agg (opL' o).toArray),some (.int .i64 (n)),some (.int .u32 (v)),some (.int .u64 v),some (.tuple #[.agg (staL T).toArray,.int .i64 (E)]),some (.tuple #[.agg (staL T).toArray,.int .i64 (E)]),some (.agg (staL T).toArray),some (.int .i64 (E)),none,none,some (.int .i64 (E))] [(1,0,11),(2,1,12),(3,2,13),(5,4,15),(6,5,16),(7,6,17),(11,10,21),(13,12,23),(14,13,10),(15,13,10),(18,15,25)]
  [(0,0),(4,0),(8,5),(9,2),(10,3)] [12] (by decide) (by decide) (by decide) (by decide) ?_ ?_ (.inl (HW.out.rebase.below ((Below.refl _ _).drew))) _ _ rfl rfl staZA rfl (fun _ _=>by simp[execOp,go_sem,staZA]<;>rfl) 8 24 14 rfl rfl rfl (by kernel_rfl) (by kernel_rfl) (by decide) (.inr rfl) rfl (fun u F hC=>sc_new hC _ _ _) (fun u F B hC hB=>sc_put hC hB _) ?_ ?_ (by decide)
 ·repeat' apply And.intro
  all_goals first
   |trivial
   |exact⟨_,rfl,by kernel_rfl,rfl,rfl,rfl,fun _=>rfl,fun _ h=>⟨_,rfl,fun _ _=>by cases h;rfl⟩⟩
   |exact⟨_,rfl,by kernel_rfl,rfl,rfl,rfl,fun _=>rfl,fun _ h=>⟨_,rfl,fun _ hu=>by cases h;obtain⟨_,hd⟩:=sc_dm hu;exact ld1 (lo_bus hd)⟩⟩
   |exact⟨_,rfl,by kernel_rfl,rfl,rfl,rfl,fun _=>rfl,fun _ h=>⟨_,rfl,fun _ hu=>by cases h;obtain⟨_,hd⟩:=sc_dm hu;exact ld1 (lo_sta hd)⟩⟩
   |exact⟨_,rfl,by kernel_rfl,rfl,rfl,rfl,fun _=>rfl,fun _ h=>⟨_,rfl,fun _ _=>by cases h;simp[execOp,envV,hv,go_sem]⟩⟩
 ·repeat' apply And.intro
  all_goals first
   |trivial
   |exact⟨_,rfl,by kernel_rfl,rfl,fun _=>rfl,_,rfl,fun _ _=>rfl⟩
   |exact⟨_,rfl,by kernel_rfl,rfl,fun _=>rfl,_,rfl,fun _ hu=>ld1 (lo_row _ _ Tryz.underlying32 rfl info_opd1 (sc_box hu HBX.out HBF.out HBD.out))⟩
 ·intro n op f u F hn ho hC hdf hbase hdep
  have hdep:=fun j (h1:j≠16∧j≠17) hj=>hdep j h1.1 h1.2 hj
  obtain rfl:n=12:=by simpa using hn
  cases ho
  have e14:f.tmps.getD 14 undef=.pointer (some ⟨b,0,none⟩):=tab_at (hdep 3 (by decide) (by kernel_rfl))
  have e18:f.tmps.getD 18 undef=.agg (staL t).toArray:=tab_at (hdep 7 (by decide) (by kernel_rfl))
  have e19:f.tmps.getD 19 undef=.agg (opL' o).toArray:=tab_at (hdep 8 (by decide) (by kernel_rfl))
  have e20:f.tmps.getD 20 undef=.int .i64 (n):=tab_at (hdep 9 (by decide) (by kernel_rfl))
  have e22:f.tmps.getD 22 undef=.int .u64 v:=tab_at (hdep 11 (by decide) (by kernel_rfl))
  refine wp_call (by simp[execOp,Act.eval,e14,e18,e19,e20,e22,go_sem]<;>rfl) ((HST.out W F2 29 (staL T) u F hC).mono ?_)
  rintro e u2 ⟨rfl,F3,hd,hk⟩
  exact⟨_,rfl,_,F3,rfl,.inr hd,hk,rfl,fun _=>hd⟩
 ·intro f u F _ hE hV hB
  obtain⟨B,q16,hB,hBc⟩:=hB
  have q18:f 18=.int .i64 E:=tab_at (hV 18 (by decide) (by decide) (by decide))
  clear hV
  simp only[List.size_toArray,List.length_cons,List.length_nil,Nat.reduceAdd,laid,List.getElem?_toArray,List.getElem?_cons_zero,List.getElem?_cons_succ,Option.bind_some,Act.put,List.setIfInBounds_toArray,List.set_cons_zero,List.set_cons_succ,q16,q18]
  clear q16 q18
  have HR:=Lib.hid (range_in13 hBc 0 (staL T) rfl)
  have HE:=Lib.hid hE
  have HDM:=Lib.hid (show DM W F2 D b G cc dd t I u from⟨F,hE⟩)
  clear hB hBc hE hv
  by_cases h0:E=0
  ·subst h0
   have HOK1:=Lib.hid (HOK.out rfl)
   clear HOK HNO
   go_wp2_with (first
    |(refine wpList_load_mid rfl 29 (.tmp 8) rfl B 0 rfl (staL T) _ HR.out Tryz.underlying29 rfl info_sta ?_)
    |(refine store_named rfl 29 (.tmp 32) (.tmp 30) rfl D 19 (staL T) rfl rfl (HDM.out.has 19 23 (by decide)) info_sta (sta_one T) ?_;intro Y hY;have HY:=Lib.hid (HDM.out.cells 19 (staL T) hY (do_state b t T I));clear hY))
   obtain⟨F4,hf⟩:=HY.out
   exact bodyPost_end (v:=.tuple #[]) (by simp[results,Tryz.results88]) rfl ⟨by rw[HOK1.out];rfl,by rw[HOK1.out];exact⟨F4,HW.out.back hf⟩⟩
  ·have e1:(E != 0)=true:=by simpa using h0
   have HNO1:=Lib.hid (HNO.out h0)
   clear h0 HNO HOK
   go_wp2_with fail
   exact⟨rfl,by rw[HNO1.out];rfl,by rw[HNO1.out];exact⟨F,HW.out.back HE.out⟩⟩
theorem endO_ok{E:Int}(h:E=0):endO E=.returned (.tuple #[]):=if_pos h
theorem endO_bad{E:Int}(h:¬E=0):endO E=thrown E:=if_neg h
def endB(Ea Xa Eb Xb:Int):Ending:=if Ea=0∧Eb=0 then .returned (.tuple #[.int .u32 Xa,.int .u32 Xb])else thrown 2
theorem endB_ok{Ea Xa Eb Xb:Int}(h:Ea=0)(k:Eb=0):endB Ea Xa Eb Xb=.returned (.tuple #[.int .u32 Xa,.int .u32 Xb]):=if_pos ⟨h,k⟩
theorem endB_bad{Ea Xa Eb Xb:Int}(h:¬(Ea=0∧Eb=0)):endB Ea Xa Eb Xb=thrown 2:=if_neg h
theorem both_any15{w1:World}{F0:Nat→Prop}{D b:Nat}{g:Int→Int}{cc dd:Sg}{t:Sta}{I:Ins}(ht:StaOk t)(hA:0≤I.a.disp∧I.a.disp<4294967296)(hB:0≤I.b.disp∧I.b.disp<4294967296)(w:World)(hD:DM w1 F0 D b g cc dd t I w):
  Calls Tryz.prog 72 #[.pointer (some ⟨D,0,none⟩)] w fun e w'=>e=endB (aldE dd t I.a I.size) (lodV g dd t I.a I.size) (aldE dd t I.b I.size) (lodV g dd t I.b I.size)∧Below w.heap.size w w':=by
 have HF:=Lib.hid (fun u (h:DM w1 F0 D b g cc dd t I u)=>first_any15 ht hA.1 hA.2 u h)
 have HS:=Lib.hid (fun u (h:DM w1 F0 D b g cc dd t I u)=>second_any15 ht hB.1 hB.2 u h)
 obtain⟨Ea,h1⟩:∃E,aldE dd t I.a I.size=E:=⟨_,rfl⟩
 obtain⟨Xa,h2⟩:∃X,lodV g dd t I.a I.size=X:=⟨_,rfl⟩
 obtain⟨Eb,h3⟩:∃E,aldE dd t I.b I.size=E:=⟨_,rfl⟩
 obtain⟨Xb,h4⟩:∃X,lodV g dd t I.b I.size=X:=⟨_,rfl⟩
 rw[h1,h2]at HF
 rw[h3,h4]at HS
 rw[h1,h2,h3,h4]
 have HD:=Lib.hid hD
 clear h1 h2 h3 h4 ht hA hB hD
 go_enter Tryz.func72,Tryz.ntmps72
 go_wp2_with fail
 ((with_reducible refine(HF.out _ HD.out).mono ?_);rintro e w2 ⟨rfl,b1⟩)
 have HD1:=Lib.hid (HD.out.below b1)
 have HB1:=Lib.hid b1
 clear b1
 by_cases h:Ea=0
 ·rw[endL_ok h]
  go_wp2_with fail
  ((with_reducible refine(HS.out _ HD1.out).mono ?_);rintro e w3 ⟨rfl,b2⟩)
  have HB2:=Lib.hid (below_step HB1.out b2)
  clear b2
  by_cases k:Eb=0
  ·have HE:=Lib.hid (endB_ok (Xa:=Xa) (Xb:=Xb) h k)
   rw[endL_ok k]
   clear h k
   go_wp2_with fail
   go_ret2
   exact⟨HE.out.symm,HB2.out⟩
  ·have HE:=Lib.hid (endB_bad (Xa:=Xa) (Xb:=Xb) (fun q:Ea=0∧Eb=0=>k q.2))
   rw[endL_bad k]
   clear h k
   exact⟨rfl,HE.out.symm,HB2.out⟩
 ·have HE:=Lib.hid (endB_bad (Xa:=Xa) (Xb:=Xb) (fun q:Ea=0∧Eb=0=>h q.1))
  rw[endL_bad h]
  clear h
  exact⟨rfl,HE.out.symm,HB1.out⟩
theorem put_any15{w1:World}{F0:Nat→Prop}{D b:Nat}{g:Int→Int}{cc dd:Sg}{t:Sta}{I:Ins}(ht:StaOk t)(hA:0≤I.a.disp∧I.a.disp<4294967296)(v:Int)(v0:0≤v)(v1:v<4294967296)(w:World)(hD:DM w1 F0 D b g cc dd t I w):
  Calls Tryz.prog 64 #[.pointer (some ⟨D,0,none⟩),.int .u32 v] w fun e w'=>e=endO (putZ g dd t I.a I.size v).e∧DM w1 F0 D b (putZ g dd t I.a I.size v).g cc dd (putZ g dd t I.a I.size v).t I w':=by
 have HST:=Lib.hid (fun u (h:DM w1 F0 D b g cc dd t I u)=>store_any15 ht I.a hA.1 hA.2 I.size v v0 v1 u h)
 obtain⟨M,hM⟩:∃M,putZ g dd t I.a I.size v=M:=⟨_,rfl⟩
 rw[hM]at HST ⊢
 rw[show opV I.a=.agg (opL' I.a).toArray from rfl]at HST
 have HD:=Lib.hid hD
 clear hM ht hA v0 v1 hD
 go_enter Tryz.func64,Tryz.ntmps64
 refine wp_region_autoT (by kernel_rfl) 12 _ rfl rfl (by kernel_rfl) (fun n=>false) (by kernel_rfl) (DB w w1 F0 D b g cc dd t I) [some (.pointer (some ⟨D,0,none⟩)),some (.pointer (some ⟨D,0,none⟩)),some (.pointer (some ⟨D,0,none⟩)),some (.pointer (some ⟨D,0,none⟩)),some (.pointer (some ⟨D,3,none⟩)),some (.agg (opL' I.a).toArray),some (.pointer (some ⟨D,0,none⟩)),some (.pointer (some ⟨D,0,none⟩)),some (.pointer (some ⟨D,0,none⟩)),some (.pointer (some ⟨D,2,none⟩)),some (.int .i64 (I.size)),some (.int .u32 (v))]
  [(2,1,5),(3,2,6),(4,3,7),(5,4,8),(7,6,10),(8,7,11),(9,8,12),(10,9,13)] [(0,0),(1,0),(6,0),(11,1)] [] (by decide) ?_ ?_ (DB.start HD.out) (fun _ _ _ _ h=>nomatch h) ?_
 ·repeat' apply And.intro
  all_goals first
   |trivial
   |exact⟨_,rfl,by kernel_rfl,rfl,rfl,rfl,fun _=>rfl,fun _ h=>⟨_,rfl,fun _ _=>by cases h;rfl⟩⟩
   |exact⟨_,rfl,by kernel_rfl,rfl,rfl,rfl,fun _=>rfl,fun _ h=>⟨_,rfl,fun _ hu=>by cases h;exact ld1 (lo_a hu.dm)⟩⟩
   |exact⟨_,rfl,by kernel_rfl,rfl,rfl,rfl,fun _=>rfl,fun _ h=>⟨_,rfl,fun _ hu=>by cases h;exact ld1 (lo_size hu.dm)⟩⟩
 ·repeat' apply And.intro
  all_goals first
   |trivial
   |exact⟨_,rfl,by kernel_rfl,rfl,fun _=>rfl,_,rfl,fun _ _=>rfl⟩
 ·intro f u hinv hV
  have c4:f 0=.pointer (some ⟨D,0,none⟩):=tab_at (hV 0 (by decide))
  have c9:f 5=.agg (opL' I.a).toArray:=tab_at (hV 5 (by decide))
  have c14:f 10=.int .i64 I.size:=tab_at (hV 10 (by decide))
  have c15:f 11=.int .u32 v:=tab_at (hV 11 (by decide))
  refine wp_call_or (f:=88) (args:=#[f 0,f 5,f 10,f 11]) (by kernel_rfl) ?_
  rw[c4,c9,c14,c15]
  refine(HST.out u hinv.dm).mono ?_
  rintro e u2 ⟨rfl,hd⟩
  by_cases h:M.e=0
  ·exact .inl ⟨_,endO_ok h,bodyPost_end (v:=.tuple #[]) (by simp[results,Tryz.results64]) (by kernel_rfl) ⟨(endO_ok h).symm,hd⟩⟩
  ·exact .inr ⟨_,endO_bad h,by kernel_rfl,(endO_bad h).symm,hd⟩
theorem tell_any15{w1:World}{F0:Nat→Prop}{D b:Nat}{g:Int→Int}{cc dd:Sg}{t:Sta}{I:Ins}(c p z s o d:Bool)(w:World)(hD:DM w1 F0 D b g cc dd t I w):
  Calls Tryz.prog 86 #[.pointer (some ⟨D,0,none⟩),.agg #[.bool c,.bool p,.bool z,.bool s,.bool o,.bool d]] w fun e w'=>e=.returned (.tuple #[])∧DM w1 F0 D b g cc dd (tellT t c p z s o) I w':=by
 have HD:=Lib.hid hD
 have HL:=Lib.hid (show w.heap.size≠D by have:=hD.lt;omega)
 clear hD
 go_enter Tryz.func86,Tryz.ntmps86
 go_upto_region 1 with fail
 obtain⟨W,hW⟩:∃W,W=w.alloc (.cells #[.bool c,.bool p,.bool z,.bool s,.bool o,.bool d] 25):=⟨_,rfl⟩
 rw[←hW]
 have hb:W.heap[w.heap.size]?=some (.cells #[.bool c,.bool p,.bool z,.bool s,.bool o,.bool d] 25 (0,0)):=by rw[hW];show(w.heap.push _)[w.heap.size]?=_;simp
 have HW:=Lib.hid (show Below w.heap.size w W by rw[hW];exact below_last (Below.refl _ _) _)
 have HB:=Lib.hid hb
 have cD:=(HD.out.below HW.out).dir
 have c5:W.cell? ⟨w.heap.size,5,none⟩=some (.bool d):=(cell_block hb 5).1
 have z5:=(cell_block hb 5).2
 clear hW hb
 go_upto_region 2 with fail
 obtain⟨X,hX⟩:∃X,X=W.setCell ⟨w.heap.size,5,none⟩ (.bool t.d):=⟨_,rfl⟩
 rw[←hX]
 have HX:=Lib.hid (show DM w1 F0 D b g cc dd t I X by rw[hX];exact HD.out.below (HW.out.setCell (by exact Nat.le_refl _) _))
 have HR:=Lib.hid (show X.rangeAt w.heap.size 0 (flL c p z s o t.d)by rw[hX];exact range_in13 (block_setCell HB.out 5 (.bool t.d)) 0 _ rfl)
 clear hX cD c5 z5
 go_wp2_with (first
  |(refine wpList_load_mid rfl 25 (.tmp 3) rfl w.heap.size 0 rfl (flL c p z s o t.d) _ HR.out Tryz.underlying25 rfl info_fl15 ?_)
  |(refine store_named rfl 25 (.tmp 15) (.tmp 12) rfl D 28 (flL c p z s o t.d) rfl rfl (HX.out.has 28 6 (by decide)) info_fl15 (flL_one _ _ _ _ _ _) ?_;intro Y hY;have HY:=Lib.hid (HX.out.cells 28 _ hY (do_flags b t I c p z s o t.d));clear hY))
 exact bodyPost_end (v:=.tuple #[]) (by simp[results,Tryz.results86]) rfl ⟨rfl,HY.out⟩
theorem tell_fl15{w1:World}{F0:Nat→Prop}{D b:Nat}{g:Int→Int}{cc dd:Sg}{t:Sta}{I:Ins}(c p z s o d:Bool)(w:World)(hD:DM w1 F0 D b g cc dd t I w):Calls Tryz.prog 86 #[.pointer (some ⟨D,0,none⟩),.agg (flL c p z s o d).toArray] w fun e w'=>e=.returned (.tuple #[])∧DM w1 F0 D b g cc dd (tellT t c p z s o) I w':=tell_any15 c p z s o d w hD
theorem keep_eq15(g:Int→Int)(dd:Sg)(t:Sta)(I:Ins)(v:Int)(c p z s o:Bool):keepZ g dd t I v c p z s o=if(putZ g dd t I.a I.size v).e=0 then⟨0,tellT (putZ g dd t I.a I.size v).t c p z s o,(putZ g dd t I.a I.size v).g⟩else⟨2,t,g⟩:=by
 unfold keepZ
 by_cases h:astE dd t I.a I.size=0
 ·rw[putZ_ok h,if_pos h,if_pos rfl]
 ·rw[putZ_bad h,if_neg h,if_neg (show ¬(2:Int)=0 by decide)]
theorem put_two(g:Int→Int)(dd:Sg)(t:Sta)(o:Opd)(n v:Int):(putZ g dd t o n v).e=0∨putZ g dd t o n v=⟨2,t,g⟩:=by
 by_cases h:astE dd t o n=0
 ·rw[putZ_ok h];exact .inl rfl
 ·exact .inr (putZ_bad h)
theorem keep_any15{w1:World}{F0:Nat→Prop}{D b:Nat}{g:Int→Int}{cc dd:Sg}{t:Sta}{I:Ins}(ht:StaOk t)(hA:0≤I.a.disp∧I.a.disp<4294967296)(v:Int)(v0:0≤v)(v1:v<4294967296)(c p z s o d:Bool)(w:World)(hD:DM w1 F0 D b g cc dd t I w):
  Calls Tryz.prog 66 #[.pointer (some ⟨D,0,none⟩),.int .u32 v,.agg #[.bool c,.bool p,.bool z,.bool s,.bool o,.bool d]] w fun e w'=>e=endO (keepZ g dd t I v c p z s o).e∧DM w1 F0 D b (keepZ g dd t I v c p z s o).g cc dd (keepZ g dd t I v c p z s o).t I w':=by
 obtain⟨F,hD⟩:=hD
 have HPU:=Lib.hid (fun(w1:World) (F0:Nat→Prop) (u:World) (h:DM w1 F0 D b g cc dd t I u)=>put_any15 ht hA v v0 v1 u h)
 have HK:=Lib.hid (keep_eq15 g dd t I v c p z s o)
 have HP2:=Lib.hid (put_two g dd t I.a I.size v)
 obtain⟨M,hM⟩:∃M,putZ g dd t I.a I.size v=M:=⟨_,rfl⟩
 rw[hM]at HPU HK HP2
 have HD:=Lib.hid hD
 clear hM ht hA v0 v1 hD
 go_enter Tryz.func66,Tryz.ntmps66
 go_upto_region 1 with fail
 obtain⟨W,hW⟩:∃W,W=w.alloc (.cells #[.bool c,.bool p,.bool z,.bool s,.bool o,.bool d] 25):=⟨_,rfl⟩
 rw[←hW]
 have HW:=Lib.hid (show DF w1 F0 D b g cc dd t I W F by rw[hW];exact HD.out.below (below_last (Below.refl _ _) _))
 have HRB:=Lib.hid (show DM W F D b g cc dd t I W from⟨F,HW.out.rebase⟩)
 have HB:=Lib.hid (show W.heap[w.heap.size]?=some (.cells #[.bool c,.bool p,.bool z,.bool s,.bool o,.bool d] 25 (0,0))by rw[hW];show(w.heap.push _)[w.heap.size]?=_;simp)
 have HBD:=Lib.hid (show w.heap.size≠D by have:=HD.out.lt;omega)
 have HBF:=Lib.hid (HD.out.fresh (Nat.le_refl w.heap.size))
 clear hW
 go_wp2_with fail
 ((with_reducible refine(HPU.out W F _ HRB.out).mono ?_);rintro e w2 ⟨rfl,F2,hd⟩)
 have HD2:=Lib.hid (show DM w1 F0 D b M.g cc dd M.t I w2 from⟨F2,HW.out.back hd⟩)
 have HR:=Lib.hid (range_in13 (hd.stays HB.out HBF.out HBD.out) 0 (flL c p z s o d) rfl)
 clear hd
 by_cases h:M.e=0
 ·have HM:=Lib.hid (HK.out.trans (if_pos h))
  rw[endO_ok h]
  clear h HK HP2
  go_wp2_with (refine wpList_load_mid rfl 25 (.tmp 5) rfl w.heap.size 0 rfl (flL c p z s o d) _ HR.out Tryz.underlying25 rfl info_fl15 ?_)
  ((with_reducible refine(tell_fl15 c p z s o d _ HD2.out).mono ?_);rintro e w3 ⟨rfl,hd⟩)
  have HD3:=Lib.hid hd
  clear hd
  go_wp2_with fail
  exact bodyPost_end (v:=.tuple #[]) (by simp[results,Tryz.results66]) rfl ⟨by rw[HM.out];rfl,by rw[HM.out];exact HD3.out⟩
 ·have HM:=Lib.hid (HK.out.trans (if_neg h))
  have hm:M=⟨2,t,g⟩:=HP2.out.resolve_left h
  subst hm
  rw[endO_bad h]
  exact⟨rfl,by rw[HM.out];rfl,by rw[HM.out];exact HD2.out⟩
theorem held_any15{w1:World}{F0:Nat→Prop}{D b:Nat}{g:Int→Int}{cc dd:Sg}{t:Sta}{I:Ins}(c0:-9223372036854775808≤I.cond)(c1:I.cond≤9223372036854775807)(w:World)(hD:DM w1 F0 D b g cc dd t I w):
  Calls Tryz.prog 102 #[.pointer (some ⟨D,0,none⟩)] w fun e w'=>e=.returned (.int .u32 (heldF t I.cond))∧Below w.heap.size w w':=by
 have HHO:=Lib.hid (fun u=>cholds_any I.cond t.c t.p t.z t.s t.o t.d c0 c1 u)
 obtain⟨hc,h⟩:∃hc,condH I.cond t.c t.p t.z t.s t.o=hc:=⟨_,rfl⟩
 have HE:=Lib.hid (show heldF t I.cond=if hc then 1 else 0 by rw[←h];rfl)
 rw[h]at HHO
 rw[show(#[Value.bool t.c,.bool t.p,.bool t.z,.bool t.s,.bool t.o,.bool t.d]:Array Value)=(flL t.c t.p t.z t.s t.o t.d).toArray from rfl]at HHO
 have HD:=Lib.hid hD
 clear h c0 c1 hD
 rw[HE.out]
 clear HE
 go_enter Tryz.func102,Tryz.ntmps102
 go_wp2_with fail
 refine wp_region_auto (by kernel_rfl) (fun n=>false) (by kernel_rfl) (DB w w1 F0 D b g cc dd t I) [some (.pointer (some ⟨D,0,none⟩)),some (.pointer (some ⟨D,0,none⟩)),some (.pointer (some ⟨D,0,none⟩)),some (.pointer (some ⟨D,1,none⟩)),some (.int .i64 (I.cond)),some (.pointer (some ⟨D,0,none⟩)),some (.pointer (some ⟨D,0,none⟩)),some (.pointer (some ⟨D,19,none⟩)),some (.pointer (some ⟨D,28,none⟩)),some (.agg (flL t.c t.p t.z t.s t.o t.d).toArray),some (.bool hc)]
  [(1,0,3),(2,1,4),(3,2,5),(4,3,6),(6,5,8),(7,6,9),(8,7,10),(9,8,11)] [(0,0),(5,0)] [10] (by decide) ?_ ?_ (DB.start HD.out) ?_ ?_
 ·repeat' apply And.intro
  all_goals first
   |trivial
   |exact⟨_,rfl,by kernel_rfl,rfl,rfl,rfl,fun _=>rfl,fun _ h=>⟨_,rfl,fun _ _=>by cases h;rfl⟩⟩
   |exact⟨_,rfl,by kernel_rfl,rfl,rfl,rfl,fun _=>rfl,fun _ h=>⟨_,rfl,fun _ hu=>by cases h;exact ld1 (lo_cond hu.dm)⟩⟩
   |exact⟨_,rfl,by kernel_rfl,rfl,rfl,rfl,fun _=>rfl,fun _ h=>⟨_,rfl,fun _ hu=>by cases h;exact ld1 (lo_fls hu.dm)⟩⟩
 ·repeat' apply And.intro
  all_goals first
   |trivial
   |exact⟨_,rfl,by kernel_rfl,rfl,fun _=>rfl,_,rfl,fun _ _=>rfl⟩
 ·intro n op f u hn ho hinv hdf hbase hdep
  obtain rfl:n=10:=by simpa using hn
  ·cases ho
   have e7:f.tmps.getD 7 undef=.int .i64 (I.cond):=tab_at (hdep 4 (by kernel_rfl))
   have e12:f.tmps.getD 12 undef=.agg (flL t.c t.p t.z t.s t.o t.d).toArray:=tab_at (hdep 9 (by kernel_rfl))
   refine wp_call (by simp[execOp,Act.eval,e7,e12,go_sem]<;>rfl) ((HHO.out u).mono ?_)
   rintro e u2 ⟨rfl,hb⟩
   exact⟨_,rfl,_,rfl,hinv.below hb,rfl⟩
 ·intro f u hinv hV
  have q10:f 10=.bool hc:=tab_at (hV 10 (by decide))
  clear hV
  simp only[List.size_toArray,List.length_cons,List.length_nil,Nat.reduceAdd,laid,List.getElem?_toArray,List.getElem?_cons_zero,List.getElem?_cons_succ,Option.bind_some,Act.put,List.setIfInBounds_toArray,List.set_cons_zero,List.set_cons_succ,q10]
  clear q10
  have HI:=Lib.hid hinv.bel
  clear hinv
  cases hc with
  |true=>
   go_wp2_with fail
   go_ret
   exact⟨rfl,HI.out⟩
  |false=>
   go_wp2_with fail
   go_ret
   exact⟨rfl,HI.out⟩
theorem spread_any15(v n:Int)(w:World):Calls Tryz.prog 101 #[.int .u32 v,.int .i64 n] w fun e w'=>e=.returned (.int .u32 (sgn v n%4294967296))∧w=w':=by
 have HS:=Lib.hid (fun u=>signed_any v n u)
 generalize sgn v n=S at HS ⊢
 go_enter Tryz.func101,Tryz.ntmps101
 go_wp2_with fail
 ((with_reducible refine(HS.out _).mono ?_);rintro e w2 ⟨rfl,rfl⟩)
 go_wp2_with fail
 go_ret
 exact⟨rfl,rfl⟩
theorem mark_any15{w1:World}{F0:Nat→Prop}{D b:Nat}{g:Int→Int}{cc dd:Sg}{t:Sta}{I:Ins}(hop:I.op=41∨I.op=42∨I.op=43∨I.op=44∨I.op=45)(w:World)(hD:DM w1 F0 D b g cc dd t I w):
  Calls Tryz.prog 74 #[.pointer (some ⟨D,0,none⟩)] w fun e w'=>e=.returned (.tuple #[])∧DM w1 F0 D b g cc dd (markZ g t I.op).t I w':=by
 have HC:=Lib.hid (fun(Y:World) (x:Bool) (hY:Y=w.setCell ⟨D,28,none⟩ (.bool x))=>hD.cell (t':={ t with c:=x }) 28 (.bool x) hY (by kernel_rfl))
 have HX:=Lib.hid (fun(Y:World) (x:Bool) (hY:Y=w.setCell ⟨D,33,none⟩ (.bool x))=>hD.cell (t':={ t with d:=x }) 33 (.bool x) hY (by kernel_rfl))
 have c0:=hD.op
 have c28:=hD.carry
 have c33:=hD.dir
 have z28:=hD.free 28
 have z33:=hD.free 33
 clear hD
 rcases hop with h|h|h|h|h
 ·clear HX c33 z33
  have HM:=Lib.hid (show(markZ g t I.op).t={ t with c:=false }by unfold markZ;rw[h];rfl)
  rw[h]at c0
  clear h
  go_enter Tryz.func74,Tryz.ntmps74
  go_wp2_with fail
  exact bodyPost_end (v:=.tuple #[]) (by simp[results,Tryz.results74]) rfl ⟨rfl,by rw[HM.out];exact HC.out _ false rfl⟩
 ·clear HX c33 z33
  have HM:=Lib.hid (show(markZ g t I.op).t={ t with c:=true }by unfold markZ;rw[h];rfl)
  rw[h]at c0
  clear h
  go_enter Tryz.func74,Tryz.ntmps74
  go_wp2_with fail
  exact bodyPost_end (v:=.tuple #[]) (by simp[results,Tryz.results74]) rfl ⟨rfl,by rw[HM.out];exact HC.out _ true rfl⟩
 ·clear HX c33 z33
  have HM:=Lib.hid (show(markZ g t I.op).t={ t with c:=(!t.c) }by unfold markZ;rw[h];rfl)
  rw[h]at c0
  clear h
  go_enter Tryz.func74,Tryz.ntmps74
  go_wp2_with fail
  exact bodyPost_end (v:=.tuple #[]) (by simp[results,Tryz.results74]) rfl ⟨rfl,by rw[HM.out];exact HC.out _ (!t.c) rfl⟩
 ·clear HC c28 z28
  have HM:=Lib.hid (show(markZ g t I.op).t={ t with d:=false }by unfold markZ;rw[h];rfl)
  rw[h]at c0
  clear h
  go_enter Tryz.func74,Tryz.ntmps74
  go_wp2_with fail
  exact bodyPost_end (v:=.tuple #[]) (by simp[results,Tryz.results74]) rfl ⟨rfl,by rw[HM.out];exact HX.out _ false rfl⟩
 ·clear HC c28 z28
  have HM:=Lib.hid (show(markZ g t I.op).t={ t with d:=true }by unfold markZ;rw[h];rfl)
  rw[h]at c0
  clear h
  go_enter Tryz.func74,Tryz.ntmps74
  go_wp2_with fail
  exact bodyPost_end (v:=.tuple #[]) (by simp[results,Tryz.results74]) rfl ⟨rfl,by rw[HM.out];exact HX.out _ true rfl⟩
theorem heap_15(w:World)(o:Obj):(w.alloc o).heap[w.heap.size]?=some o:=by show(w.heap.push _)[w.heap.size]?=_;simp
section
variable {g:Int→Int} {dd:Sg} {t:Sta} {I:Ins} {K:Int→Int→Out} {J:Int→Out}
theorem twoZ_ok(h:aldE dd t I.a I.size=0)(k:aldE dd t I.b I.size=0):twoZ g dd t I K=K (lodV g dd t I.a I.size) (lodV g dd t I.b I.size):=by
 unfold twoZ oneZ secZ
 rw[if_pos h]
 exact if_pos k
theorem twoZ_bad(h:¬(aldE dd t I.a I.size=0∧aldE dd t I.b I.size=0)):twoZ g dd t I K=⟨2,t,g⟩:=by
 unfold twoZ oneZ secZ
 by_cases h1:aldE dd t I.a I.size=0
 ·rw[if_pos h1]
  exact if_neg (fun h2=>h ⟨h1,h2⟩)
 ·rw[if_neg h1]
theorem oneZ_ok(h:aldE dd t I.a I.size=0):oneZ g dd t I J=J (lodV g dd t I.a I.size):=if_pos h
theorem oneZ_bad(h:¬aldE dd t I.a I.size=0):oneZ g dd t I J=⟨2,t,g⟩:=if_neg h
theorem secZ_ok(h:aldE dd t I.b I.size=0):secZ g dd t I J=J (lodV g dd t I.b I.size):=if_pos h
theorem secZ_bad(h:¬aldE dd t I.b I.size=0):secZ g dd t I J=⟨2,t,g⟩:=if_neg h
end
set_option maxHeartbeats 16000000
theorem sum_any15{w1:World}{F0:Nat→Prop}{D b:Nat}{g:Int→Int}{cc dd:Sg}{t:Sta}{I:Ins}(ht:StaOk t)(hA:0≤I.a.disp∧I.a.disp<4294967296)(hB:0≤I.b.disp∧I.b.disp<4294967296)(hop:I.op=1∨I.op=3∨I.op=6∨I.op=4∨I.op=8)(w:World)(hD:DM w1 F0 D b g cc dd t I w):
  Calls Tryz.prog 62 #[.pointer (some ⟨D,0,none⟩)] w fun e w'=>e=endO (sumZ g dd t I).e∧DM w1 F0 D b (sumZ g dd t I).g cc dd (sumZ g dd t I).t I w':=by
 have HBO:=Lib.hid (fun u (h:DM w1 F0 D b g cc dd t I u)=>both_any15 ht hA hB u h)
 have HKE:=Lib.hid (fun v v0 v1 c p z s o d u (h:DM w1 F0 D b g cc dd t I u)=>keep_any15 ht hA v v0 v1 c p z s o d u h)
 have HOK:=Lib.hid (fun K h k=>twoZ_ok (g:=g) (dd:=dd) (t:=t) (I:=I) (K:=K) h k)
 have HNO:=Lib.hid (fun K h=>twoZ_bad (g:=g) (dd:=dd) (t:=t) (I:=I) (K:=K) h)
 have hx:=cut_lo (aldV g dd t I.a I.size) I.size
 have hx1:=cut_hi (aldV g dd t I.a I.size) I.size
 have hy:=cut_lo (aldV g dd t I.b I.size) I.size
 have hy1:=cut_hi (aldV g dd t I.b I.size) I.size
 rw[show cut (aldV g dd t I.a I.size) I.size=lodV g dd t I.a I.size from rfl]at hx hx1
 rw[show cut (aldV g dd t I.b I.size) I.size=lodV g dd t I.b I.size from rfl]at hy hy1
 obtain⟨Ea,h1⟩:∃E,aldE dd t I.a I.size=E:=⟨_,rfl⟩
 obtain⟨x,h2⟩:∃X,lodV g dd t I.a I.size=X:=⟨_,rfl⟩
 obtain⟨Eb,h3⟩:∃E,aldE dd t I.b I.size=E:=⟨_,rfl⟩
 obtain⟨y,h4⟩:∃X,lodV g dd t I.b I.size=X:=⟨_,rfl⟩
 rw[h1,h2,h3,h4]at HBO HOK
 rw[h1,h3]at HNO
 rw[h2]at hx hx1
 rw[h4]at hy hy1
 have HD:=Lib.hid hD
 clear h1 h2 h3 h4 ht hA hB hD
 by_cases hE:Ea=0∧Eb=0
 ·have HZ:=Lib.hid (show sumZ g dd t I=(if I.op=1 then addZ g dd t I x y false else if I.op=3 then addZ g dd t I x y t.c else if I.op=6 then subZ g dd t I x y false else if I.op=4 then subZ g dd t I x y t.c else cmpZ g t I x y)from HOK.out _ hE.1 hE.2)
  have HB:=Lib.hid (endB_ok (Xa:=x) (Xb:=y) hE.1 hE.2)
  rw[HB.out]at HBO
  clear hE HB HOK HNO
  rcases hop with h|h|h|h|h
  ·have HM:=Lib.hid (show sumZ g dd t I=addZ g dd t I x y false by rw[HZ.out,if_pos h])
   clear HZ
   obtain⟨M,hM⟩:∃M,keepZ g dd t I (addV x y I.size false) (addC x y I.size false) (par (addV x y I.size false)) (zer (addV x y I.size false)) (hi (addV x y I.size false) I.size) (addO x y I.size false)=M:=⟨_,rfl⟩
   have HM:=Lib.hid (show sumZ g dd t I=M by rw[HM.out,←hM];rfl)
   have HKE:=Lib.hid (fun u (hu:DM w1 F0 D b g cc dd t I u)=>HKE.out (addV x y I.size false) (addV_lo _ _ _ _) (addV_hi _ _ _ _) (addC x y I.size false) (par (addV x y I.size false)) (zer (addV x y I.size false)) (hi (addV x y I.size false) I.size) (addO x y I.size false) false u hu)
   rw[hM]at HKE
   clear hM
   go_enter Tryz.func62,Tryz.ntmps62
   go_wp2_with fail
   ((with_reducible refine(HBO.out _ HD.out).mono ?_);rintro e w2 ⟨rfl,b1⟩)
   have HD1:=Lib.hid (HD.out.below b1)
   clear b1
   have c0:=HD1.out.op
   have c2:=HD1.out.size
   have c28:=HD1.out.carry
   rw[h]at c0
   clear h
   go_wp2_with fail
   ((with_reducible refine(add_any x y I.size false _).mono ?_);rintro e w3 ⟨rfl,b2⟩)
   have HD2:=Lib.hid (HD1.out.below b2)
   clear b2 c0 c2 c28
   go_wp2_with fail
   ((with_reducible refine(HKE.out _ HD2.out).mono ?_);rintro e w4 ⟨rfl,hd⟩)
   have HD3:=Lib.hid hd
   clear hd
   by_cases h:M.e=0
   ·rw[endO_ok h]
    have HE:=Lib.hid (endO_ok h)
    clear h
    go_wp2_with fail
    exact bodyPost_end (v:=.tuple #[]) (by simp[results,Tryz.results62]) rfl ⟨by rw[HM.out];exact HE.out.symm,by rw[HM.out];exact HD3.out⟩
   ·rw[endO_bad h]
    exact⟨rfl,by rw[HM.out];exact(endO_bad h).symm,by rw[HM.out];exact HD3.out⟩
  ·have HM:=Lib.hid (show sumZ g dd t I=addZ g dd t I x y t.c by rw[HZ.out,if_neg (by omega),if_pos h])
   clear HZ
   obtain⟨M,hM⟩:∃M,keepZ g dd t I (addV x y I.size t.c) (addC x y I.size t.c) (par (addV x y I.size t.c)) (zer (addV x y I.size t.c)) (hi (addV x y I.size t.c) I.size) (addO x y I.size t.c)=M:=⟨_,rfl⟩
   have HM:=Lib.hid (show sumZ g dd t I=M by rw[HM.out,←hM];rfl)
   have HKE:=Lib.hid (fun u (hu:DM w1 F0 D b g cc dd t I u)=>HKE.out (addV x y I.size t.c) (addV_lo _ _ _ _) (addV_hi _ _ _ _) (addC x y I.size t.c) (par (addV x y I.size t.c)) (zer (addV x y I.size t.c)) (hi (addV x y I.size t.c) I.size) (addO x y I.size t.c) false u hu)
   rw[hM]at HKE
   clear hM
   go_enter Tryz.func62,Tryz.ntmps62
   go_wp2_with fail
   ((with_reducible refine(HBO.out _ HD.out).mono ?_);rintro e w2 ⟨rfl,b1⟩)
   have HD1:=Lib.hid (HD.out.below b1)
   clear b1
   have c0:=HD1.out.op
   have c2:=HD1.out.size
   have c28:=HD1.out.carry
   rw[h]at c0
   clear h
   go_wp2_with fail
   ((with_reducible refine(add_any x y I.size t.c _).mono ?_);rintro e w3 ⟨rfl,b2⟩)
   have HD2:=Lib.hid (HD1.out.below b2)
   clear b2 c0 c2 c28
   go_wp2_with fail
   ((with_reducible refine(HKE.out _ HD2.out).mono ?_);rintro e w4 ⟨rfl,hd⟩)
   have HD3:=Lib.hid hd
   clear hd
   by_cases h:M.e=0
   ·rw[endO_ok h]
    have HE:=Lib.hid (endO_ok h)
    clear h
    go_wp2_with fail
    exact bodyPost_end (v:=.tuple #[]) (by simp[results,Tryz.results62]) rfl ⟨by rw[HM.out];exact HE.out.symm,by rw[HM.out];exact HD3.out⟩
   ·rw[endO_bad h]
    exact⟨rfl,by rw[HM.out];exact(endO_bad h).symm,by rw[HM.out];exact HD3.out⟩
  ·have HM:=Lib.hid (show sumZ g dd t I=subZ g dd t I x y false by rw[HZ.out,if_neg (by omega),if_neg (by omega),if_pos h])
   clear HZ
   obtain⟨M,hM⟩:∃M,keepZ g dd t I (subV x y I.size false) (subC x y I.size false) (par (subV x y I.size false)) (zer (subV x y I.size false)) (hi (subV x y I.size false) I.size) (subO x y I.size false)=M:=⟨_,rfl⟩
   have HM:=Lib.hid (show sumZ g dd t I=M by rw[HM.out,←hM];rfl)
   have HKE:=Lib.hid (fun u (hu:DM w1 F0 D b g cc dd t I u)=>HKE.out (subV x y I.size false) (subV_lo _ _ _ _) (subV_hi _ _ _ _) (subC x y I.size false) (par (subV x y I.size false)) (zer (subV x y I.size false)) (hi (subV x y I.size false) I.size) (subO x y I.size false) false u hu)
   rw[hM]at HKE
   clear hM
   go_enter Tryz.func62,Tryz.ntmps62
   go_wp2_with fail
   ((with_reducible refine(HBO.out _ HD.out).mono ?_);rintro e w2 ⟨rfl,b1⟩)
   have HD1:=Lib.hid (HD.out.below b1)
   clear b1
   have c0:=HD1.out.op
   have c2:=HD1.out.size
   have c28:=HD1.out.carry
   rw[h]at c0
   clear h
   go_wp2_with fail
   ((with_reducible refine(sub_any x y I.size false _).mono ?_);rintro e w3 ⟨rfl,b2⟩)
   have HD2:=Lib.hid (HD1.out.below b2)
   clear b2 c0 c2 c28
   go_wp2_with fail
   ((with_reducible refine(HKE.out _ HD2.out).mono ?_);rintro e w4 ⟨rfl,hd⟩)
   have HD3:=Lib.hid hd
   clear hd
   by_cases h:M.e=0
   ·rw[endO_ok h]
    have HE:=Lib.hid (endO_ok h)
    clear h
    go_wp2_with fail
    exact bodyPost_end (v:=.tuple #[]) (by simp[results,Tryz.results62]) rfl ⟨by rw[HM.out];exact HE.out.symm,by rw[HM.out];exact HD3.out⟩
   ·rw[endO_bad h]
    exact⟨rfl,by rw[HM.out];exact(endO_bad h).symm,by rw[HM.out];exact HD3.out⟩
  ·have HM:=Lib.hid (show sumZ g dd t I=subZ g dd t I x y t.c by rw[HZ.out,if_neg (by omega),if_neg (by omega),if_neg (by omega),if_pos h])
   clear HZ
   obtain⟨M,hM⟩:∃M,keepZ g dd t I (subV x y I.size t.c) (subC x y I.size t.c) (par (subV x y I.size t.c)) (zer (subV x y I.size t.c)) (hi (subV x y I.size t.c) I.size) (subO x y I.size t.c)=M:=⟨_,rfl⟩
   have HM:=Lib.hid (show sumZ g dd t I=M by rw[HM.out,←hM];rfl)
   have HKE:=Lib.hid (fun u (hu:DM w1 F0 D b g cc dd t I u)=>HKE.out (subV x y I.size t.c) (subV_lo _ _ _ _) (subV_hi _ _ _ _) (subC x y I.size t.c) (par (subV x y I.size t.c)) (zer (subV x y I.size t.c)) (hi (subV x y I.size t.c) I.size) (subO x y I.size t.c) false u hu)
   rw[hM]at HKE
   clear hM
   go_enter Tryz.func62,Tryz.ntmps62
   go_wp2_with fail
   ((with_reducible refine(HBO.out _ HD.out).mono ?_);rintro e w2 ⟨rfl,b1⟩)
   have HD1:=Lib.hid (HD.out.below b1)
   clear b1
   have c0:=HD1.out.op
   have c2:=HD1.out.size
   have c28:=HD1.out.carry
   rw[h]at c0
   clear h
   go_wp2_with fail
   ((with_reducible refine(sub_any x y I.size t.c _).mono ?_);rintro e w3 ⟨rfl,b2⟩)
   have HD2:=Lib.hid (HD1.out.below b2)
   clear b2 c0 c2 c28
   go_wp2_with fail
   ((with_reducible refine(HKE.out _ HD2.out).mono ?_);rintro e w4 ⟨rfl,hd⟩)
   have HD3:=Lib.hid hd
   clear hd
   by_cases h:M.e=0
   ·rw[endO_ok h]
    have HE:=Lib.hid (endO_ok h)
    clear h
    go_wp2_with fail
    exact bodyPost_end (v:=.tuple #[]) (by simp[results,Tryz.results62]) rfl ⟨by rw[HM.out];exact HE.out.symm,by rw[HM.out];exact HD3.out⟩
   ·rw[endO_bad h]
    exact⟨rfl,by rw[HM.out];exact(endO_bad h).symm,by rw[HM.out];exact HD3.out⟩
  ·have HM:=Lib.hid (show sumZ g dd t I=cmpZ g t I x y by rw[HZ.out,if_neg (by omega),if_neg (by omega),if_neg (by omega),if_neg (by omega)])
   clear HZ
   go_enter Tryz.func62,Tryz.ntmps62
   go_wp2_with fail
   ((with_reducible refine(HBO.out _ HD.out).mono ?_);rintro e w2 ⟨rfl,b1⟩)
   have HD1:=Lib.hid (HD.out.below b1)
   clear b1
   have c0:=HD1.out.op
   have c2:=HD1.out.size
   have c28:=HD1.out.carry
   rw[h]at c0
   clear h
   go_wp2_with fail
   ((with_reducible refine(sub_any x y I.size false _).mono ?_);rintro e w3 ⟨rfl,b2⟩)
   have HD2:=Lib.hid (HD1.out.below b2)
   clear b2 c0 c2 c28
   go_upto_region 13 with fail
   obtain⟨W,hW⟩:∃W,W=w3.alloc (.cells (flL (subC x y I.size false) (par (subV x y I.size false)) (zer (subV x y I.size false)) (hi (subV x y I.size false) I.size) (subO x y I.size false) false).toArray 25):=⟨_,rfl⟩
   have HD3:=Lib.hid (show DM w1 F0 D b g cc dd t I W by rw[hW];exact HD2.out.alloc _)
   have HR:=Lib.hid (show W.rangeAt w3.heap.size 0 (flL (subC x y I.size false) (par (subV x y I.size false)) (zer (subV x y I.size false)) (hi (subV x y I.size false) I.size) (subO x y I.size false) false)by rw[hW];exact range_in13 (heap_15 _ _) 0 _ rfl)
   rw[show(flL (subC x y I.size false) (par (subV x y I.size false)) (zer (subV x y I.size false)) (hi (subV x y I.size false) I.size) (subO x y I.size false) false).toArray=#[.bool (subC x y I.size false),.bool (par (subV x y I.size false)),.bool (zer (subV x y I.size false)),.bool (hi (subV x y I.size false) I.size),.bool (subO x y I.size false),.bool false]from rfl]at hW
   rw[←hW]
   clear hW
   go_wp2_with (refine wpList_load_mid rfl 25 (.tmp 6) rfl w3.heap.size 0 rfl (flL (subC x y I.size false) (par (subV x y I.size false)) (zer (subV x y I.size false)) (hi (subV x y I.size false) I.size) (subO x y I.size false) false) _ HR.out Tryz.underlying25 rfl info_fl15 ?_)
   ((with_reducible refine(tell_fl15 _ _ _ _ _ _ _ HD3.out).mono ?_);rintro e w4 ⟨rfl,hd⟩)
   have HD4:=Lib.hid hd
   clear hd
   go_wp2_with fail
   exact bodyPost_end (v:=.tuple #[]) (by simp[results,Tryz.results62]) rfl ⟨by rw[HM.out];rfl,by rw[HM.out];exact HD4.out⟩
 ·have HZ:=Lib.hid (show sumZ g dd t I=⟨2,t,g⟩from HNO.out _ hE)
  rw[endB_bad hE]at HBO
  clear hE HOK HNO hop
  go_enter Tryz.func62,Tryz.ntmps62
  go_wp2_with fail
  ((with_reducible refine(HBO.out _ HD.out).mono ?_);rintro e w2 ⟨rfl,b1⟩)
  have HD1:=Lib.hid (HD.out.below b1)
  clear b1
  exact⟨rfl,by rw[HZ.out];rfl,by rw[HZ.out];exact HD1.out⟩
end Go.Proofs.YtmdncgfheeijaaaGreat
