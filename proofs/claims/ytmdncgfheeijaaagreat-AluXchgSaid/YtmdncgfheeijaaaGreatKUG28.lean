import Derived.Test.YtmdncgfheeijaaaGreatKUG12
import Derived.Test.YtmdncgfheeijaaaGreatKUG27
namespace Go.Proofs.YtmdncgfheeijaaaGreat
open Go.ChangeShapes Go.WideShapes Go.ChangeAt Go.RowKit
set_option maxRecDepth 100000
theorem heap_15(w:World)(o:Obj):(w.alloc o).heap[w.heap.size]?=some o:=by show(w.heap.push _)[w.heap.size]?=_;simp
section
variable {g:Int→Int} {dd:Sg} {t:Sta} {I:Ins} {K:Int→Int→Out} {J:Int→Out}
theorem twoZ_ok(h:aldE dd t I.a I.size=0)(k:aldE dd t I.b I.size=0):twoZ g dd t I K=K (lodV g dd t I.a I.size) (lodV g dd t I.b I.size):=by
 unfold twoZ oneZ secZ
 rw[if_pos h]
 exact if_pos k
theorem twoZ_bad(h:¬(aldE dd t I.a I.size=0∧aldE dd t I.b I.size=0)):twoZ g dd t I K=⟨2,t,g⟩:=by
 unfold twoZ oneZ secZ
 by_cases h1:aldE dd t I.a I.size=0
 ·rw[if_pos h1]
  exact if_neg (fun h2=>h ⟨h1,h2⟩)
 ·rw[if_neg h1]
theorem oneZ_ok(h:aldE dd t I.a I.size=0):oneZ g dd t I J=J (lodV g dd t I.a I.size):=if_pos h
theorem oneZ_bad(h:¬aldE dd t I.a I.size=0):oneZ g dd t I J=⟨2,t,g⟩:=if_neg h
theorem secZ_ok(h:aldE dd t I.b I.size=0):secZ g dd t I J=J (lodV g dd t I.b I.size):=if_pos h
theorem secZ_bad(h:¬aldE dd t I.b I.size=0):secZ g dd t I J=⟨2,t,g⟩:=if_neg h
end
set_option maxHeartbeats 16000000
theorem sum_any15{w1:World}{F0:Nat→Prop}{D b:Nat}{g:Int→Int}{cc dd:Sg}{t:Sta}{I:Ins}(ht:StaOk t)(hA:0≤I.a.disp∧I.a.disp<4294967296)(hB:0≤I.b.disp∧I.b.disp<4294967296)(hop:I.op=1∨I.op=3∨I.op=6∨I.op=4∨I.op=8)(w:World)(hD:DM w1 F0 D b g cc dd t I w):
  Calls Tryz.prog 62 #[.pointer (some ⟨D,0,none⟩)] w fun e w'=>e=endO (sumZ g dd t I).e∧DM w1 F0 D b (sumZ g dd t I).g cc dd (sumZ g dd t I).t I w':=by
 have HBO:=Lib.hid (fun u (h:DM w1 F0 D b g cc dd t I u)=>both_any15 ht hA hB u h)
 have HKE:=Lib.hid (fun v v0 v1 c p z s o d u (h:DM w1 F0 D b g cc dd t I u)=>keep_any15 ht hA v v0 v1 c p z s o d u h)
 have HOK:=Lib.hid (fun K h k=>twoZ_ok (g:=g) (dd:=dd) (t:=t) (I:=I) (K:=K) h k)
 have HNO:=Lib.hid (fun K h=>twoZ_bad (g:=g) (dd:=dd) (t:=t) (I:=I) (K:=K) h)
 have hx:=cut_lo (aldV g dd t I.a I.size) I.size
 have hx1:=cut_hi (aldV g dd t I.a I.size) I.size
 have hy:=cut_lo (aldV g dd t I.b I.size) I.size
 have hy1:=cut_hi (aldV g dd t I.b I.size) I.size
 rw[show cut (aldV g dd t I.a I.size) I.size=lodV g dd t I.a I.size from rfl]at hx hx1
 rw[show cut (aldV g dd t I.b I.size) I.size=lodV g dd t I.b I.size from rfl]at hy hy1
 obtain⟨Ea,h1⟩:∃E,aldE dd t I.a I.size=E:=⟨_,rfl⟩
 obtain⟨x,h2⟩:∃X,lodV g dd t I.a I.size=X:=⟨_,rfl⟩
 obtain⟨Eb,h3⟩:∃E,aldE dd t I.b I.size=E:=⟨_,rfl⟩
 obtain⟨y,h4⟩:∃X,lodV g dd t I.b I.size=X:=⟨_,rfl⟩
 rw[h1,h2,h3,h4]at HBO HOK
 rw[h1,h3]at HNO
 rw[h2]at hx hx1
 rw[h4]at hy hy1
 have HD:=Lib.hid hD
 clear h1 h2 h3 h4 ht hA hB hD
 by_cases hE:Ea=0∧Eb=0
 ·have HZ:=Lib.hid (show sumZ g dd t I=(if I.op=1 then addZ g dd t I x y false else if I.op=3 then addZ g dd t I x y t.c else if I.op=6 then subZ g dd t I x y false else if I.op=4 then subZ g dd t I x y t.c else cmpZ g t I x y)from HOK.out _ hE.1 hE.2)
  have HB:=Lib.hid (endB_ok (Xa:=x) (Xb:=y) hE.1 hE.2)
  rw[HB.out]at HBO
  clear hE HB HOK HNO
  rcases hop with h|h|h|h|h
  ·have HM:=Lib.hid (show sumZ g dd t I=addZ g dd t I x y false by rw[HZ.out,if_pos h])
   clear HZ
   obtain⟨M,hM⟩:∃M,keepZ g dd t I (addV x y I.size false) (addC x y I.size false) (par (addV x y I.size false)) (zer (addV x y I.size false)) (hi (addV x y I.size false) I.size) (addO x y I.size false)=M:=⟨_,rfl⟩
   have HM:=Lib.hid (show sumZ g dd t I=M by rw[HM.out,←hM];rfl)
   have HKE:=Lib.hid (fun u (hu:DM w1 F0 D b g cc dd t I u)=>HKE.out (addV x y I.size false) (addV_lo _ _ _ _) (addV_hi _ _ _ _) (addC x y I.size false) (par (addV x y I.size false)) (zer (addV x y I.size false)) (hi (addV x y I.size false) I.size) (addO x y I.size false) false u hu)
   rw[hM]at HKE
   clear hM
   go_enter Tryz.func62,Tryz.ntmps62
   go_wp2_with fail
   ((with_reducible refine(HBO.out _ HD.out).mono ?_);rintro e w2 ⟨rfl,b1⟩)
   have HD1:=Lib.hid (HD.out.below b1)
   clear b1
   have c0:=HD1.out.op
   have c2:=HD1.out.size
   have c28:=HD1.out.carry
   rw[h]at c0
   clear h
   go_wp2_with fail
   ((with_reducible refine(add_any x y I.size false _).mono ?_);rintro e w3 ⟨rfl,b2⟩)
   have HD2:=Lib.hid (HD1.out.below b2)
   clear b2 c0 c2 c28
   go_wp2_with fail
   ((with_reducible refine(HKE.out _ HD2.out).mono ?_);rintro e w4 ⟨rfl,hd⟩)
   have HD3:=Lib.hid hd
   clear hd
   by_cases h:M.e=0
   ·rw[endO_ok h]
    have HE:=Lib.hid (endO_ok h)
    clear h
    go_wp2_with fail
    exact bodyPost_end (v:=.tuple #[]) (by simp[results,Tryz.results62]) rfl ⟨by rw[HM.out];exact HE.out.symm,by rw[HM.out];exact HD3.out⟩
   ·rw[endO_bad h]
    exact⟨rfl,by rw[HM.out];exact(endO_bad h).symm,by rw[HM.out];exact HD3.out⟩
  ·have HM:=Lib.hid (show sumZ g dd t I=addZ g dd t I x y t.c by rw[HZ.out,if_neg (by omega),if_pos h])
   clear HZ
   obtain⟨M,hM⟩:∃M,keepZ g dd t I (addV x y I.size t.c) (addC x y I.size t.c) (par (addV x y I.size t.c)) (zer (addV x y I.size t.c)) (hi (addV x y I.size t.c) I.size) (addO x y I.size t.c)=M:=⟨_,rfl⟩
   have HM:=Lib.hid (show sumZ g dd t I=M by rw[HM.out,←hM];rfl)
   have HKE:=Lib.hid (fun u (hu:DM w1 F0 D b g cc dd t I u)=>HKE.out (addV x y I.size t.c) (addV_lo _ _ _ _) (addV_hi _ _ _ _) (addC x y I.size t.c) (par (addV x y I.size t.c)) (zer (addV x y I.size t.c)) (hi (addV x y I.size t.c) I.size) (addO x y I.size t.c) false u hu)
   rw[hM]at HKE
   clear hM
   go_enter Tryz.func62,Tryz.ntmps62
   go_wp2_with fail
   ((with_reducible refine(HBO.out _ HD.out).mono ?_);rintro e w2 ⟨rfl,b1⟩)
   have HD1:=Lib.hid (HD.out.below b1)
   clear b1
   have c0:=HD1.out.op
   have c2:=HD1.out.size
   have c28:=HD1.out.carry
   rw[h]at c0
   clear h
   go_wp2_with fail
   ((with_reducible refine(add_any x y I.size t.c _).mono ?_);rintro e w3 ⟨rfl,b2⟩)
   have HD2:=Lib.hid (HD1.out.below b2)
   clear b2 c0 c2 c28
   go_wp2_with fail
   ((with_reducible refine(HKE.out _ HD2.out).mono ?_);rintro e w4 ⟨rfl,hd⟩)
   have HD3:=Lib.hid hd
   clear hd
   by_cases h:M.e=0
   ·rw[endO_ok h]
    have HE:=Lib.hid (endO_ok h)
    clear h
    go_wp2_with fail
    exact bodyPost_end (v:=.tuple #[]) (by simp[results,Tryz.results62]) rfl ⟨by rw[HM.out];exact HE.out.symm,by rw[HM.out];exact HD3.out⟩
   ·rw[endO_bad h]
    exact⟨rfl,by rw[HM.out];exact(endO_bad h).symm,by rw[HM.out];exact HD3.out⟩
  ·have HM:=Lib.hid (show sumZ g dd t I=subZ g dd t I x y false by rw[HZ.out,if_neg (by omega),if_neg (by omega),if_pos h])
   clear HZ
   obtain⟨M,hM⟩:∃M,keepZ g dd t I (subV x y I.size false) (subC x y I.size false) (par (subV x y I.size false)) (zer (subV x y I.size false)) (hi (subV x y I.size false) I.size) (subO x y I.size false)=M:=⟨_,rfl⟩
   have HM:=Lib.hid (show sumZ g dd t I=M by rw[HM.out,←hM];rfl)
   have HKE:=Lib.hid (fun u (hu:DM w1 F0 D b g cc dd t I u)=>HKE.out (subV x y I.size false) (subV_lo _ _ _ _) (subV_hi _ _ _ _) (subC x y I.size false) (par (subV x y I.size false)) (zer (subV x y I.size false)) (hi (subV x y I.size false) I.size) (subO x y I.size false) false u hu)
   rw[hM]at HKE
   clear hM
   go_enter Tryz.func62,Tryz.ntmps62
   go_wp2_with fail
   ((with_reducible refine(HBO.out _ HD.out).mono ?_);rintro e w2 ⟨rfl,b1⟩)
   have HD1:=Lib.hid (HD.out.below b1)
   clear b1
   have c0:=HD1.out.op
   have c2:=HD1.out.size
   have c28:=HD1.out.carry
   rw[h]at c0
   clear h
   go_wp2_with fail
   ((with_reducible refine(sub_any x y I.size false _).mono ?_);rintro e w3 ⟨rfl,b2⟩)
   have HD2:=Lib.hid (HD1.out.below b2)
   clear b2 c0 c2 c28
   go_wp2_with fail
   ((with_reducible refine(HKE.out _ HD2.out).mono ?_);rintro e w4 ⟨rfl,hd⟩)
   have HD3:=Lib.hid hd
   clear hd
   by_cases h:M.e=0
   ·rw[endO_ok h]
    have HE:=Lib.hid (endO_ok h)
    clear h
    go_wp2_with fail
    exact bodyPost_end (v:=.tuple #[]) (by simp[results,Tryz.results62]) rfl ⟨by rw[HM.out];exact HE.out.symm,by rw[HM.out];exact HD3.out⟩
   ·rw[endO_bad h]
    exact⟨rfl,by rw[HM.out];exact(endO_bad h).symm,by rw[HM.out];exact HD3.out⟩
  ·have HM:=Lib.hid (show sumZ g dd t I=subZ g dd t I x y t.c by rw[HZ.out,if_neg (by omega),if_neg (by omega),if_neg (by omega),if_pos h])
   clear HZ
   obtain⟨M,hM⟩:∃M,keepZ g dd t I (subV x y I.size t.c) (subC x y I.size t.c) (par (subV x y I.size t.c)) (zer (subV x y I.size t.c)) (hi (subV x y I.size t.c) I.size) (subO x y I.size t.c)=M:=⟨_,rfl⟩
   have HM:=Lib.hid (show sumZ g dd t I=M by rw[HM.out,←hM];rfl)
   have HKE:=Lib.hid (fun u (hu:DM w1 F0 D b g cc dd t I u)=>HKE.out (subV x y I.size t.c) (subV_lo _ _ _ _) (subV_hi _ _ _ _) (subC x y I.size t.c) (par (subV x y I.size t.c)) (zer (subV x y I.size t.c)) (hi (subV x y I.size t.c) I.size) (subO x y I.size t.c) false u hu)
   rw[hM]at HKE
   clear hM
   go_enter Tryz.func62,Tryz.ntmps62
   go_wp2_with fail
   ((with_reducible refine(HBO.out _ HD.out).mono ?_);rintro e w2 ⟨rfl,b1⟩)
   have HD1:=Lib.hid (HD.out.below b1)
   clear b1
   have c0:=HD1.out.op
   have c2:=HD1.out.size
   have c28:=HD1.out.carry
   rw[h]at c0
   clear h
   go_wp2_with fail
   ((with_reducible refine(sub_any x y I.size t.c _).mono ?_);rintro e w3 ⟨rfl,b2⟩)
   have HD2:=Lib.hid (HD1.out.below b2)
   clear b2 c0 c2 c28
   go_wp2_with fail
   ((with_reducible refine(HKE.out _ HD2.out).mono ?_);rintro e w4 ⟨rfl,hd⟩)
   have HD3:=Lib.hid hd
   clear hd
   by_cases h:M.e=0
   ·rw[endO_ok h]
    have HE:=Lib.hid (endO_ok h)
    clear h
    go_wp2_with fail
    exact bodyPost_end (v:=.tuple #[]) (by simp[results,Tryz.results62]) rfl ⟨by rw[HM.out];exact HE.out.symm,by rw[HM.out];exact HD3.out⟩
   ·rw[endO_bad h]
    exact⟨rfl,by rw[HM.out];exact(endO_bad h).symm,by rw[HM.out];exact HD3.out⟩
  ·have HM:=Lib.hid (show sumZ g dd t I=cmpZ g t I x y by rw[HZ.out,if_neg (by omega),if_neg (by omega),if_neg (by omega),if_neg (by omega)])
   clear HZ
   go_enter Tryz.func62,Tryz.ntmps62
   go_wp2_with fail
   ((with_reducible refine(HBO.out _ HD.out).mono ?_);rintro e w2 ⟨rfl,b1⟩)
   have HD1:=Lib.hid (HD.out.below b1)
   clear b1
   have c0:=HD1.out.op
   have c2:=HD1.out.size
   have c28:=HD1.out.carry
   rw[h]at c0
   clear h
   go_wp2_with fail
   ((with_reducible refine(sub_any x y I.size false _).mono ?_);rintro e w3 ⟨rfl,b2⟩)
   have HD2:=Lib.hid (HD1.out.below b2)
   clear b2 c0 c2 c28
   go_upto_region 13 with fail
   obtain⟨W,hW⟩:∃W,W=w3.alloc (.cells (flL (subC x y I.size false) (par (subV x y I.size false)) (zer (subV x y I.size false)) (hi (subV x y I.size false) I.size) (subO x y I.size false) false).toArray 25):=⟨_,rfl⟩
   have HD3:=Lib.hid (show DM w1 F0 D b g cc dd t I W by rw[hW];exact HD2.out.alloc _)
   have HR:=Lib.hid (show W.rangeAt w3.heap.size 0 (flL (subC x y I.size false) (par (subV x y I.size false)) (zer (subV x y I.size false)) (hi (subV x y I.size false) I.size) (subO x y I.size false) false)by rw[hW];exact range_in13 (heap_15 _ _) 0 _ rfl)
   rw[show(flL (subC x y I.size false) (par (subV x y I.size false)) (zer (subV x y I.size false)) (hi (subV x y I.size false) I.size) (subO x y I.size false) false).toArray=#[.bool (subC x y I.size false),.bool (par (subV x y I.size false)),.bool (zer (subV x y I.size false)),.bool (hi (subV x y I.size false) I.size),.bool (subO x y I.size false),.bool false]from rfl]at hW
   rw[←hW]
   clear hW
   go_wp2_with (refine wpList_load_mid rfl 25 (.tmp 6) rfl w3.heap.size 0 rfl (flL (subC x y I.size false) (par (subV x y I.size false)) (zer (subV x y I.size false)) (hi (subV x y I.size false) I.size) (subO x y I.size false) false) _ HR.out Tryz.underlying25 rfl info_fl15 ?_)
   ((with_reducible refine(tell_fl15 _ _ _ _ _ _ _ HD3.out).mono ?_);rintro e w4 ⟨rfl,hd⟩)
   have HD4:=Lib.hid hd
   clear hd
   go_wp2_with fail
   exact bodyPost_end (v:=.tuple #[]) (by simp[results,Tryz.results62]) rfl ⟨by rw[HM.out];rfl,by rw[HM.out];exact HD4.out⟩
 ·have HZ:=Lib.hid (show sumZ g dd t I=⟨2,t,g⟩from HNO.out _ hE)
  rw[endB_bad hE]at HBO
  clear hE HOK HNO hop
  go_enter Tryz.func62,Tryz.ntmps62
  go_wp2_with fail
  ((with_reducible refine(HBO.out _ HD.out).mono ?_);rintro e w2 ⟨rfl,b1⟩)
  have HD1:=Lib.hid (HD.out.below b1)
  clear b1
  exact⟨rfl,by rw[HZ.out];rfl,by rw[HZ.out];exact HD1.out⟩
theorem bl_new{W u:World}(h:Below W.heap.size W u)(T:TypeId)(cs:List Value)(o:Obj):Below W.heap.size W (u.alloc o)∧(W.heap.size≤u.heap.size∧u.heap.size<(u.alloc o).heap.size)∧KeptB (γ:=Unit) (fun u _ B=>W.heap.size≤B∧B<u.heap.size) T cs (fun _ _=>True) u () (u.alloc o) ():=by
 have hb:=below_last (Below.refl u.heap.size u) o
 have hs:(u.alloc o).heap.size=u.heap.size+1:=by simp
 exact⟨below_last h o,⟨h.size,by omega⟩,KeptB.of (fun _=>trivial) fun B hB=>⟨⟨hB.1,by have:=hB.2;omega⟩,hb.block B hB.2⟩⟩
theorem bl_put{W u:World}(h:Below W.heap.size W u){B:Nat}(hB:W.heap.size≤B∧B<u.heap.size)(cs:List Value):Below W.heap.size W (u.setCells B 0 cs)∧(True→True)∧∀B',W.heap.size≤B'∧B'<u.heap.size→W.heap.size≤B'∧B'<(u.setCells B 0 cs).heap.size:=
 ⟨below_setCells hB.1 _ _ _ h,id,fun B' hb=>⟨hb.1,by rw[setCells_size];exact hb.2⟩⟩
theorem bl_call{W u u':World}(hb:Below u.heap.size u u')(T:TypeId)(cs:List Value):KeptB (γ:=Unit) (fun u _ B=>W.heap.size≤B∧B<u.heap.size) T cs (fun _ _=>True) u () u' ():=
 KeptB.of (fun _=>trivial) fun B hB=>⟨⟨hB.1,Nat.lt_of_lt_of_le hB.2 hb.size⟩,hb.block B hB.2⟩
theorem log_lkp{op x y:Int}(hop:op=5∨op=2∨op=7∨op=9):(lkp [(5,.int .u32 (bits .and .u32 x y)),(2,.int .u32 (bits .or .u32 x y)),(7,.int .u32 (bits .xor .u32 x y)),(9,.int .u32 (bits .and .u32 x y))] op).getD (.int .u32 0)=.int .u32 (logV op x y):=by
 rcases hop with rfl|rfl|rfl|rfl<;>rfl
theorem logic_any15{w1:World}{F0:Nat→Prop}{D b:Nat}{g:Int→Int}{cc dd:Sg}{t:Sta}{I:Ins}(ht:StaOk t)(hA:0≤I.a.disp∧I.a.disp<4294967296)(hB:0≤I.b.disp∧I.b.disp<4294967296)(hop:I.op=5∨I.op=2∨I.op=7∨I.op=9)(w:World)(hD:DM w1 F0 D b g cc dd t I w):
  Calls Tryz.prog 63 #[.pointer (some ⟨D,0,none⟩)] w fun e w'=>e=endO (logicZ g dd t I).e∧DM w1 F0 D b (logicZ g dd t I).g cc dd (logicZ g dd t I).t I w':=by
 have HPU:=Lib.hid (fun v v0 v1 (w1:World) (F0:Nat→Prop) (u:World) (h:DM w1 F0 D b g cc dd t I u)=>put_any15 ht hA v v0 v1 u h)
 have HBO:=Lib.hid (fun u (h:DM w1 F0 D b g cc dd t I u)=>both_any15 ht hA hB u h)
 have HKE:=Lib.hid (fun v v0 v1 c p z s o d u (h:DM w1 F0 D b g cc dd t I u)=>keep_any15 ht hA v v0 v1 c p z s o d u h)
 have HOK:=Lib.hid (fun K h k=>twoZ_ok (g:=g) (dd:=dd) (t:=t) (I:=I) (K:=K) h k)
 have HNO:=Lib.hid (fun K h=>twoZ_bad (g:=g) (dd:=dd) (t:=t) (I:=I) (K:=K) h)
 have hx:=cut_lo (aldV g dd t I.a I.size) I.size
 have hx1:=cut_hi (aldV g dd t I.a I.size) I.size
 have hy:=cut_lo (aldV g dd t I.b I.size) I.size
 have hy1:=cut_hi (aldV g dd t I.b I.size) I.size
 rw[show cut (aldV g dd t I.a I.size) I.size=lodV g dd t I.a I.size from rfl]at hx hx1
 rw[show cut (aldV g dd t I.b I.size) I.size=lodV g dd t I.b I.size from rfl]at hy hy1
 obtain⟨Ea,h1⟩:∃E,aldE dd t I.a I.size=E:=⟨_,rfl⟩
 obtain⟨x,h2⟩:∃X,lodV g dd t I.a I.size=X:=⟨_,rfl⟩
 obtain⟨Eb,h3⟩:∃E,aldE dd t I.b I.size=E:=⟨_,rfl⟩
 obtain⟨y,h4⟩:∃X,lodV g dd t I.b I.size=X:=⟨_,rfl⟩
 rw[h1,h2,h3,h4]at HBO HOK
 rw[h1,h3]at HNO
 rw[h2]at hx hx1
 rw[h4]at hy hy1
 have HD:=Lib.hid hD
 have HL:=Lib.hid (log_lkp (x:=x) (y:=y) hop)
 clear HKE
 clear h1 h2 h3 h4 ht hA hB hD
 by_cases hE:Ea=0∧Eb=0
 ·have HB:=Lib.hid (endB_ok (Xa:=x) (Xb:=y) hE.1 hE.2)
  rw[HB.out]at HBO
  obtain⟨L,hL⟩:∃L,logV I.op x y=L:=⟨_,rfl⟩
  obtain⟨V,hV⟩:∃V,cut L I.size=V:=⟨_,rfl⟩
  have HZ:=Lib.hid (show logicZ g dd t I=(if I.op=9 then⟨0,tellT t false (par V) (zer V) (hi V I.size) false,g⟩else keepZ g dd t I V false (par V) (zer V) (hi V I.size) false)by
   rw[←hV,←hL]
   exact HOK.out _ hE.1 hE.2)
  have HLK:=Lib.hid (show(lkp [(5,.int .u32 (bits .and .u32 x y)),(2,.int .u32 (bits .or .u32 x y)),(7,.int .u32 (bits .xor .u32 x y)),(9,.int .u32 (bits .and .u32 x y))] I.op).getD (.int .u32 0)=.int .u32 L by rw[←hL];exact HL.out)
  have HLO:=Lib.hid (fun u=>logic_any L I.size u)
  have v0:=cut_lo L I.size
  have v1:=cut_hi L I.size
  rw[hV]at HLO v0 v1
  clear hE HB HOK HNO HL hL hV hop
  have hmm:=@run_makeMap Tryz.prog
  go_enter Tryz.func63,Tryz.ntmps63
  go_wp2_with fail
  ((with_reducible refine(HBO.out _ HD.out).mono ?_);rintro e w2 ⟨rfl,b1⟩)
  have HD1:=Lib.hid (HD.out.below b1)
  clear b1
  go_upto_region 1 with fail
  have HM0:=Lib.hid (MapI.made w2)
  have HB0:=Lib.hid (show Below w2.heap.size w2 (w2.alloc (.map #[] 0))from below_last (Below.refl _ _) _)
  go_upto_region 2 with(first
   |(refine wpList_insertI rfl (.tmp 12) (.const (.int .i64 5)) (.tmp 15) rfl 5 (.int .u32 (bits .and .u32 x y)) rfl rfl rfl HM0.out Tryz.underlying146 Tryz.underlying3 rfl ?_;intro m1 hm hb;have HM1:=Lib.hid hm;have HB1:=Lib.hid hb;clear hm hb)
   |(refine wpList_insertI rfl (.tmp 12) (.const (.int .i64 2)) (.tmp 18) rfl 2 (.int .u32 (bits .or .u32 x y)) rfl rfl rfl HM1.out Tryz.underlying146 Tryz.underlying3 rfl ?_;intro m2 hm hb;have HM2:=Lib.hid hm;have HB2:=Lib.hid hb;clear hm hb)
   |(refine wpList_insertI rfl (.tmp 12) (.const (.int .i64 7)) (.tmp 21) rfl 7 (.int .u32 (bits .xor .u32 x y)) rfl rfl rfl HM2.out Tryz.underlying146 Tryz.underlying3 rfl ?_;intro m3 hm hb;have HM3:=Lib.hid hm;have HB3:=Lib.hid hb;clear hm hb)
   |(refine wpList_insertI rfl (.tmp 12) (.const (.int .i64 9)) (.tmp 24) rfl 9 (.int .u32 (bits .and .u32 x y)) rfl rfl rfl HM3.out Tryz.underlying146 Tryz.underlying3 rfl ?_;intro m4 hm hb;have HM4:=Lib.hid hm;have HB4:=Lib.hid hb;clear hm hb))
  have HW:=Lib.hid (HD1.out.below (HB4.out.below (HB3.out.below (HB2.out.below (HB1.out.below HB0.out (fun k hk=>by omega) HB0.out.size) (fun k hk=>by omega) (by have:=HB0.out.size;have:=HB1.out.size;omega)) (fun k hk=>by omega) (by have:=HB0.out.size;have:=HB1.out.size;have:=HB2.out.size;omega)) (fun k hk=>by omega) (by have:=HB0.out.size;have:=HB1.out.size;have:=HB2.out.size;have:=HB3.out.size;omega)))
  have HMP:=Lib.hid (show MapI m4 w2.heap.size [(5,.int .u32 (bits .and .u32 x y)),(2,.int .u32 (bits .or .u32 x y)),(7,.int .u32 (bits .xor .u32 x y)),(9,.int .u32 (bits .and .u32 x y))]from HM4.out)
  have HDL:=Lib.hid HW.out.lt
  clear HM0 HM1 HM2 HM3 HM4 HB0 HB1 HB2 HB3 HB4 hmm HD HD1
  refine wp_region_made (γ:=Unit) (by kernel_rfl) (fun n=>n==18) 16 18 12 rfl rfl (by decide) (by decide) (by kernel_rfl) (fun u _=>Below m4.heap.size m4 u) () (fun u _ B=>m4.heap.size≤B∧B<u.heap.size) (fun _ _=>True) 25 (flL false (par V) (zer V) (hi V I.size) false false) info_fl15 (flL_one _ _ _ _ _ _)
   [some (.map (some w2.heap.size)),some (.pointer (some ⟨D,0,none⟩)),some (.pointer (some ⟨D,0,none⟩)),some (.pointer (some ⟨D,0,none⟩)),some (.pointer (some ⟨D,0,none⟩)),some (.int .i64 (I.op)),some (.int .u32 (L)),some (.pointer (some ⟨D,0,none⟩)),some (.pointer (some ⟨D,0,none⟩)),some (.pointer (some ⟨D,0,none⟩)),some (.pointer (some ⟨D,2,none⟩)),some (.int .i64 (I.size)),some (.tuple #[.int .u32 (V),.agg (flL false (par V) (zer V) (hi V I.size) false false).toArray]),some (.tuple #[.int .u32 (V),.agg (flL false (par V) (zer V) (hi V I.size) false false).toArray]),some (.int .u32 (V)),some (.agg (flL false (par V) (zer V) (hi V I.size) false false).toArray),none,some (.int .u32 (V)),none] [(2,1,28),(3,2,29),(4,3,30),(5,4,31),(8,7,34),(9,8,35),(10,9,36),(11,10,37),(13,12,39),(14,13,26),(15,13,26),(17,14,40)]
   [(0,4),(1,0),(7,0)] [6,12] (by decide) (by decide) (by decide) (by decide) ?_ ?_ ((Below.refl _ _).drew) _ _ rfl rfl #[.bool false,.bool false,.bool false,.bool false,.bool false,.bool false] rfl (fun _ _=>by simp[execOp,go_sem]<;>rfl) 6 41 15 rfl rfl rfl (by kernel_rfl) (by kernel_rfl) (by decide) (.inr rfl) rfl (fun u _ hC=>bl_new hC _ _ _) (fun u _ B hC hB=>bl_put hC hB _) ?_ ?_ (by decide)
  ·repeat' apply And.intro
   all_goals first
    |trivial
    |exact⟨_,rfl,by kernel_rfl,rfl,rfl,rfl,fun _=>rfl,fun _ h=>⟨_,rfl,fun _ _=>by cases h;rfl⟩⟩
    |exact⟨_,rfl,by kernel_rfl,rfl,rfl,rfl,fun _=>rfl,fun _ h=>⟨_,rfl,fun _ hu=>by cases h;obtain⟨_,hu⟩:=hu;exact ld1 (lo_op (HW.out.below hu))⟩⟩
    |exact⟨_,rfl,by kernel_rfl,rfl,rfl,rfl,fun _=>rfl,fun _ h=>⟨_,rfl,fun _ hu=>by cases h;obtain⟨_,hu⟩:=hu;exact ld1 (lo_size (HW.out.below hu))⟩⟩
  ·repeat' apply And.intro
   all_goals first
    |trivial
    |exact⟨_,rfl,by kernel_rfl,rfl,fun _=>rfl,_,rfl,fun _ _=>rfl⟩
  ·intro n op f u F hn ho hC hdf hbase hdep
   have hdep:=fun j (h1:j≠16∧j≠18) hj=>hdep j h1.1 h1.2 hj
   rcases(show n=6∨n=12 by simpa using hn)with rfl|rfl
   ·cases ho
    have e27:f.tmps.getD 27 undef=.map (some w2.heap.size):=tab_at (hdep 0 (by decide) (by kernel_rfl))
    have e32:f.tmps.getD 32 undef=.int .i64 (I.op):=tab_at (hdep 5 (by decide) (by kernel_rfl))
    have hm:=(HMP.out.but (F:=fun _=>False) (But.of_below hC) (fun h=>h)).ask (T:=146) Tryz.underlying146 Tryz.underlying3 I.op (z:=.int .u32 0) rfl false
    rw[HLK.out]at hm
    exact wp_val (v:=.int .u32 L) (by simp[execOp,Act.eval,e27,e32,hm,go_sem]) ⟨_,(),rfl,hC,KeptB.refl _ _ _ _ _ _,rfl,fun e=>absurd e (by decide)⟩
   ·cases ho
    have e33:f.tmps.getD 33 undef=.int .u32 (L):=tab_at (hdep 6 (by decide) (by kernel_rfl))
    have e38:f.tmps.getD 38 undef=.int .i64 (I.size):=tab_at (hdep 11 (by decide) (by kernel_rfl))
    refine wp_call (by simp[execOp,Act.eval,e33,e38,go_sem]<;>rfl) ((HLO.out u).mono ?_)
    rintro e u2 ⟨rfl,hb⟩
    exact⟨_,rfl,_,(),rfl,below_step hC hb,bl_call hb _ _,rfl,fun _=>trivial⟩
  ·intro f u F hC _ hV hB
   obtain⟨B,q16,hB,hBc⟩:=hB
   have q17:f 17=.int .u32 V:=tab_at (hV 17 (by decide) (by decide) (by decide))
   clear hV
   simp only[List.size_toArray,List.length_cons,List.length_nil,Nat.reduceAdd,laid,List.getElem?_toArray,List.getElem?_cons_zero,List.getElem?_cons_succ,Option.bind_some,Act.put,List.setIfInBounds_toArray,List.set_cons_zero,List.set_cons_succ,q16,q17]
   clear q16 q17
   have HD2:=Lib.hid (HW.out.below hC)
   have HBC:=Lib.hid hBc
   have HBD:=Lib.hid (show B≠D by have:=HDL.out;omega)
   obtain⟨F2,hF2⟩:=HW.out
   have HBF:=Lib.hid (hF2.fresh hB.1)
   have HDF:=Lib.hid (hF2.below hC)
   have c0:=HD2.out.op
   clear hC hB hBc hF2
   by_cases h9:I.op=9
   ·have HM:=Lib.hid (HZ.out.trans (if_pos h9))
    have HR:=Lib.hid (range_in13 HBC.out 0 (flL false (par V) (zer V) (hi V I.size) false false) rfl)
    rw[h9]at c0
    clear h9 HZ
    go_wp2_with (refine wpList_load_mid rfl 25 (.tmp 6) rfl B 0 rfl (flL false (par V) (zer V) (hi V I.size) false false) _ HR.out Tryz.underlying25 rfl info_fl15 ?_)
    ((with_reducible refine(tell_fl15 _ _ _ _ _ _ _ HD2.out).mono ?_);rintro e w4 ⟨rfl,hd⟩)
    have HD4:=Lib.hid hd
    clear hd
    go_wp2_with fail
    exact bodyPost_end (v:=.tuple #[]) (by simp[results,Tryz.results63]) rfl ⟨by rw[HM.out];rfl,by rw[HM.out];exact HD4.out⟩
   ·have HM:=Lib.hid ((HZ.out.trans (if_neg h9)).trans (keep_eq15 g dd t I V false (par V) (zer V) (hi V I.size) false))
    have HP2:=Lib.hid (put_two g dd t I.a I.size V)
    have HPU:=Lib.hid (HPU.out V v0 v1)
    obtain⟨M,hM⟩:∃M,putZ g dd t I.a I.size V=M:=⟨_,rfl⟩
    rw[hM]at HPU HM HP2
    have e9:(I.op != 9)=true:=by simpa using h9
    have e9':(I.op==9)=false:=by simpa using h9
    have HRB:=Lib.hid (show DM u F2 D b g cc dd t I u from⟨F2,HDF.out.rebase⟩)
    clear hM h9 HZ
    go_wp2_with fail
    ((with_reducible refine(HPU.out u F2 _ HRB.out).mono ?_);rintro e w4 ⟨rfl,F3,hd⟩)
    have HD3:=Lib.hid (show DM w1 F0 D b M.g cc dd M.t I w4 from⟨F3,HDF.out.back hd⟩)
    have HR:=Lib.hid (range_in13 (hd.stays HBC.out HBF.out HBD.out) 0 (flL false (par V) (zer V) (hi V I.size) false false) rfl)
    clear hd c0 e9 e9'
    by_cases h:M.e=0
    ·have HM1:=Lib.hid (HM.out.trans (if_pos h))
     rw[endO_ok h]
     clear h HM HP2
     go_wp2_with (refine wpList_load_mid rfl 25 (.tmp 6) rfl B 0 rfl (flL false (par V) (zer V) (hi V I.size) false false) _ HR.out Tryz.underlying25 rfl info_fl15 ?_)
     ((with_reducible refine(tell_fl15 _ _ _ _ _ _ _ HD3.out).mono ?_);rintro e w5 ⟨rfl,hd⟩)
     have HD4:=Lib.hid hd
     clear hd
     go_wp2_with fail
     exact bodyPost_end (v:=.tuple #[]) (by simp[results,Tryz.results63]) rfl ⟨by rw[HM1.out];rfl,by rw[HM1.out];exact HD4.out⟩
    ·have HM1:=Lib.hid (HM.out.trans (if_neg h))
     have hm:M=⟨2,t,g⟩:=HP2.out.resolve_left h
     subst hm
     rw[endO_bad h]
     exact⟨rfl,by rw[HM1.out];rfl,by rw[HM1.out];exact HD3.out⟩
 ·have HZ:=Lib.hid (show logicZ g dd t I=⟨2,t,g⟩from HNO.out _ hE)
  rw[endB_bad hE]at HBO
  clear hE HOK HNO HL hop
  go_enter Tryz.func63,Tryz.ntmps63
  go_wp2_with fail
  ((with_reducible refine(HBO.out _ HD.out).mono ?_);rintro e w2 ⟨rfl,b1⟩)
  have HD1:=Lib.hid (HD.out.below b1)
  clear b1
  exact⟨rfl,by rw[HZ.out];rfl,by rw[HZ.out];exact HD1.out⟩
end Go.Proofs.YtmdncgfheeijaaaGreat
