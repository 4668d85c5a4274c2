import Derived.Test.YtmdncgfheeijaaaGreatKVG29
namespace Go.Proofs.YtmdncgfheeijaaaGreat
open Go.ChangeShapes Go.WideShapes Go.ChangeAt Go.RowKit
set_option maxRecDepth 100000
theorem bl_new{W u:World}(h:Below W.heap.size W u)(T:TypeId)(cs:List Value)(o:Obj):Below W.heap.size W (u.alloc o)∧(W.heap.size≤u.heap.size∧u.heap.size<(u.alloc o).heap.size)∧KeptB (γ:=Unit) (fun u _ B=>W.heap.size≤B∧B<u.heap.size) T cs (fun _ _=>True) u () (u.alloc o) ():=by
 have hb:=below_last (Below.refl u.heap.size u) o
 have hs:(u.alloc o).heap.size=u.heap.size+1:=by simp
 exact⟨below_last h o,⟨h.size,by omega⟩,KeptB.of (fun _=>trivial) fun B hB=>⟨⟨hB.1,by have:=hB.2;omega⟩,hb.block B hB.2⟩⟩
theorem bl_put{W u:World}(h:Below W.heap.size W u){B:Nat}(hB:W.heap.size≤B∧B<u.heap.size)(cs:List Value):Below W.heap.size W (u.setCells B 0 cs)∧(True→True)∧∀B',W.heap.size≤B'∧B'<u.heap.size→W.heap.size≤B'∧B'<(u.setCells B 0 cs).heap.size:=
 ⟨below_setCells hB.1 _ _ _ h,id,fun B' hb=>⟨hb.1,by rw[setCells_size];exact hb.2⟩⟩
theorem bl_call{W u u':World}(hb:Below u.heap.size u u')(T:TypeId)(cs:List Value):KeptB (γ:=Unit) (fun u _ B=>W.heap.size≤B∧B<u.heap.size) T cs (fun _ _=>True) u () u' ():=
 KeptB.of (fun _=>trivial) fun B hB=>⟨⟨hB.1,Nat.lt_of_lt_of_le hB.2 hb.size⟩,hb.block B hB.2⟩
theorem log_lkp{op x y:Int}(hop:op=5∨op=2∨op=7∨op=9):(lkp [(5,.int .u32 (bits .and .u32 x y)),(2,.int .u32 (bits .or .u32 x y)),(7,.int .u32 (bits .xor .u32 x y)),(9,.int .u32 (bits .and .u32 x y))] op).getD (.int .u32 0)=.int .u32 (logV op x y):=by
 rcases hop with rfl|rfl|rfl|rfl<;>rfl
set_option maxHeartbeats 16000000
theorem logic_any15{w1:World}{F0:Nat→Prop}{D b:Nat}{g:Int→Int}{cc dd:Sg}{t:Sta}{I:Ins}(ht:StaOk t)(hA:0≤I.a.disp∧I.a.disp<4294967296)(hB:0≤I.b.disp∧I.b.disp<4294967296)(hop:I.op=5∨I.op=2∨I.op=7∨I.op=9)(w:World)(hD:DM w1 F0 D b g cc dd t I w):
  Calls Tryz.prog 63 #[.pointer (some ⟨D,0,none⟩)] w fun e w'=>e=endO (logicZ g dd t I).e∧DM w1 F0 D b (logicZ g dd t I).g cc dd (logicZ g dd t I).t I w':=by
 have HPU:=Lib.hid (fun v v0 v1 (w1:World) (F0:Nat→Prop) (u:World) (h:DM w1 F0 D b g cc dd t I u)=>put_any15 ht hA v v0 v1 u h)
 have HBO:=Lib.hid (fun u (h:DM w1 F0 D b g cc dd t I u)=>both_any15 ht hA hB u h)
 have HKE:=Lib.hid (fun v v0 v1 c p z s o d u (h:DM w1 F0 D b g cc dd t I u)=>keep_any15 ht hA v v0 v1 c p z s o d u h)
 have HOK:=Lib.hid (fun K h k=>twoZ_ok (g:=g) (dd:=dd) (t:=t) (I:=I) (K:=K) h k)
 have HNO:=Lib.hid (fun K h=>twoZ_bad (g:=g) (dd:=dd) (t:=t) (I:=I) (K:=K) h)
 have hx:=cut_lo (aldV g dd t I.a I.size) I.size
 have hx1:=cut_hi (aldV g dd t I.a I.size) I.size
 have hy:=cut_lo (aldV g dd t I.b I.size) I.size
 have hy1:=cut_hi (aldV g dd t I.b I.size) I.size
 rw[show cut (aldV g dd t I.a I.size) I.size=lodV g dd t I.a I.size from rfl]at hx hx1
 rw[show cut (aldV g dd t I.b I.size) I.size=lodV g dd t I.b I.size from rfl]at hy hy1
 obtain⟨Ea,h1⟩:∃E,aldE dd t I.a I.size=E:=⟨_,rfl⟩
 obtain⟨x,h2⟩:∃X,lodV g dd t I.a I.size=X:=⟨_,rfl⟩
 obtain⟨Eb,h3⟩:∃E,aldE dd t I.b I.size=E:=⟨_,rfl⟩
 obtain⟨y,h4⟩:∃X,lodV g dd t I.b I.size=X:=⟨_,rfl⟩
 rw[h1,h2,h3,h4]at HBO HOK
 rw[h1,h3]at HNO
 rw[h2]at hx hx1
 rw[h4]at hy hy1
 have HD:=Lib.hid hD
 have HL:=Lib.hid (log_lkp (x:=x) (y:=y) hop)
 clear HKE
 clear h1 h2 h3 h4 ht hA hB hD
 by_cases hE:Ea=0∧Eb=0
 ·have HB:=Lib.hid (endB_ok (Xa:=x) (Xb:=y) hE.1 hE.2)
  rw[HB.out]at HBO
  obtain⟨L,hL⟩:∃L,logV I.op x y=L:=⟨_,rfl⟩
  obtain⟨V,hV⟩:∃V,cut L I.size=V:=⟨_,rfl⟩
  have HZ:=Lib.hid (show logicZ g dd t I=(if I.op=9 then⟨0,tellT t false (par V) (zer V) (hi V I.size) false,g⟩else keepZ g dd t I V false (par V) (zer V) (hi V I.size) false)by
   rw[←hV,←hL]
   exact HOK.out _ hE.1 hE.2)
  have HLK:=Lib.hid (show(lkp [(5,.int .u32 (bits .and .u32 x y)),(2,.int .u32 (bits .or .u32 x y)),(7,.int .u32 (bits .xor .u32 x y)),(9,.int .u32 (bits .and .u32 x y))] I.op).getD (.int .u32 0)=.int .u32 L by rw[←hL];exact HL.out)
  have HLO:=Lib.hid (fun u=>logic_any L I.size u)
  have v0:=cut_lo L I.size
  have v1:=cut_hi L I.size
  rw[hV]at HLO v0 v1
  clear hE HB HOK HNO HL hL hV hop
  have hmm:=@run_makeMap Tryz.prog
  go_enter Tryz.func63,Tryz.ntmps63
  go_wp2_with fail
  ((with_reducible refine(HBO.out _ HD.out).mono ?_);rintro e w2 ⟨rfl,b1⟩)
  have HD1:=Lib.hid (HD.out.below b1)
  clear b1
  go_upto_region 1 with fail
  have HM0:=Lib.hid (MapI.made w2)
  have HB0:=Lib.hid (show Below w2.heap.size w2 (w2.alloc (.map #[] 0))from below_last (Below.refl _ _) _)
  go_upto_region 2 with(first
   |(refine wpList_insertI rfl (.tmp 12) (.const (.int .i64 5)) (.tmp 15) rfl 5 (.int .u32 (bits .and .u32 x y)) rfl rfl rfl HM0.out Tryz.underlying146 Tryz.underlying3 rfl ?_;intro m1 hm hb;have HM1:=Lib.hid hm;have HB1:=Lib.hid hb;clear hm hb)
   |(refine wpList_insertI rfl (.tmp 12) (.const (.int .i64 2)) (.tmp 18) rfl 2 (.int .u32 (bits .or .u32 x y)) rfl rfl rfl HM1.out Tryz.underlying146 Tryz.underlying3 rfl ?_;intro m2 hm hb;have HM2:=Lib.hid hm;have HB2:=Lib.hid hb;clear hm hb)
   |(refine wpList_insertI rfl (.tmp 12) (.const (.int .i64 7)) (.tmp 21) rfl 7 (.int .u32 (bits .xor .u32 x y)) rfl rfl rfl HM2.out Tryz.underlying146 Tryz.underlying3 rfl ?_;intro m3 hm hb;have HM3:=Lib.hid hm;have HB3:=Lib.hid hb;clear hm hb)
   |(refine wpList_insertI rfl (.tmp 12) (.const (.int .i64 9)) (.tmp 24) rfl 9 (.int .u32 (bits .and .u32 x y)) rfl rfl rfl HM3.out Tryz.underlying146 Tryz.underlying3 rfl ?_;intro m4 hm hb;have HM4:=Lib.hid hm;have HB4:=Lib.hid hb;clear hm hb))
  have HW:=Lib.hid (HD1.out.below (HB4.out.below (HB3.out.below (HB2.out.below (HB1.out.below HB0.out (fun k hk=>by omega) HB0.out.size) (fun k hk=>by omega) (by have:=HB0.out.size;have:=HB1.out.size;omega)) (fun k hk=>by omega) (by have:=HB0.out.size;have:=HB1.out.size;have:=HB2.out.size;omega)) (fun k hk=>by omega) (by have:=HB0.out.size;have:=HB1.out.size;have:=HB2.out.size;have:=HB3.out.size;omega)))
  have HMP:=Lib.hid (show MapI m4 w2.heap.size [(5,.int .u32 (bits .and .u32 x y)),(2,.int .u32 (bits .or .u32 x y)),(7,.int .u32 (bits .xor .u32 x y)),(9,.int .u32 (bits .and .u32 x y))]from HM4.out)
  have HDL:=Lib.hid HW.out.lt
  clear HM0 HM1 HM2 HM3 HM4 HB0 HB1 HB2 HB3 HB4 hmm HD HD1
  refine wp_region_made (γ:=Unit) (by kernel_rfl) (fun n=>n==18) 16 18 12 rfl rfl (by decide) (by decide) (by kernel_rfl) (fun u _=>Below m4.heap.size m4 u) () (fun u _ B=>m4.heap.size≤B∧B<u.heap.size) (fun _ _=>True) 25 (flL false (par V) (zer V) (hi V I.size) false false) info_fl15 (flL_one _ _ _ _ _ _)
   [some (.map (some w2.heap.size)),some (.pointer (some ⟨D,0,none⟩)),some (.pointer (some ⟨D,0,none⟩)),some (.pointer (some ⟨D,0,none⟩)),some (.pointer (some ⟨D,0,none⟩)),some (.int .i64 (I.op)),some (.int .u32 (L)),some (.pointer (some ⟨D,0,none⟩)),some (.pointer (some ⟨D,0,none⟩)),some (.pointer (some ⟨D,0,none⟩)),some (.pointer (some ⟨D,2,none⟩)),some (.int .i64 (I.size)),some (.tuple #[.int .u32 (V),.agg (flL false (par V) (zer V) (hi V I.size) false false).toArray]),some (.tuple #[.int .u32 (V),.agg (flL false (par V) (zer V) (hi V I.size) false false).toArray]),some (.int .u32 (V)),some (.agg (flL false (par V) (zer V) (hi V I.size) false false).toArray),none,some (.int .u32 (V)),none] [(2,1,28),(3,2,29),(4,3,30),(5,4,31),(8,7,34),(9,8,35),(10,9,36),(11,10,37),(13,12,39),(14,13,26),(15,13,26),(17,14,40)]
   [(0,4),(1,0),(7,0)] [6,12] (by decide) (by decide) (by decide) (by decide) ?_ ?_ ((Below.refl _ _).drew) _ _ rfl rfl #[.bool false,.bool false,.bool false,.bool false,.bool false,.bool false] rfl (fun _ _=>by simp[execOp,go_sem]<;>rfl) 6 41 15 rfl rfl rfl (by kernel_rfl) (by kernel_rfl) (by decide) (.inr rfl) rfl (fun u _ hC=>bl_new hC _ _ _) (fun u _ B hC hB=>bl_put hC hB _) ?_ ?_ (by decide)
  ·repeat' apply And.intro
   all_goals first
    |trivial
    |exact⟨_,rfl,by kernel_rfl,rfl,rfl,rfl,fun _=>rfl,fun _ h=>⟨_,rfl,fun _ _=>by cases h;rfl⟩⟩
    |exact⟨_,rfl,by kernel_rfl,rfl,rfl,rfl,fun _=>rfl,fun _ h=>⟨_,rfl,fun _ hu=>by cases h;obtain⟨_,hu⟩:=hu;exact ld1 (lo_op (HW.out.below hu))⟩⟩
    |exact⟨_,rfl,by kernel_rfl,rfl,rfl,rfl,fun _=>rfl,fun _ h=>⟨_,rfl,fun _ hu=>by cases h;obtain⟨_,hu⟩:=hu;exact ld1 (lo_size (HW.out.below hu))⟩⟩
  ·repeat' apply And.intro
   all_goals first
    |trivial
    |exact⟨_,rfl,by kernel_rfl,rfl,fun _=>rfl,_,rfl,fun _ _=>rfl⟩
  ·intro n op f u F hn ho hC hdf hbase hdep
   have hdep:=fun j (h1:j≠16∧j≠18) hj=>hdep j h1.1 h1.2 hj
   rcases(show n=6∨n=12 by simpa using hn)with rfl|rfl
   ·cases ho
    have e27:f.tmps.getD 27 undef=.map (some w2.heap.size):=tab_at (hdep 0 (by decide) (by kernel_rfl))
    have e32:f.tmps.getD 32 undef=.int .i64 (I.op):=tab_at (hdep 5 (by decide) (by kernel_rfl))
    have hm:=(HMP.out.but (F:=fun _=>False) (But.of_below hC) (fun h=>h)).ask (T:=146) Tryz.underlying146 Tryz.underlying3 I.op (z:=.int .u32 0) rfl false
    rw[HLK.out]at hm
    exact wp_val (v:=.int .u32 L) (by simp[execOp,Act.eval,e27,e32,hm,go_sem]) ⟨_,(),rfl,hC,KeptB.refl _ _ _ _ _ _,rfl,fun e=>absurd e (by decide)⟩
   ·cases ho
    have e33:f.tmps.getD 33 undef=.int .u32 (L):=tab_at (hdep 6 (by decide) (by kernel_rfl))
    have e38:f.tmps.getD 38 undef=.int .i64 (I.size):=tab_at (hdep 11 (by decide) (by kernel_rfl))
    refine wp_call (by simp[execOp,Act.eval,e33,e38,go_sem]<;>rfl) ((HLO.out u).mono ?_)
    rintro e u2 ⟨rfl,hb⟩
    exact⟨_,rfl,_,(),rfl,below_step hC hb,bl_call hb _ _,rfl,fun _=>trivial⟩
  ·intro f u F hC _ hV hB
   obtain⟨B,q16,hB,hBc⟩:=hB
   have q17:f 17=.int .u32 V:=tab_at (hV 17 (by decide) (by decide) (by decide))
   clear hV
   simp only[List.size_toArray,List.length_cons,List.length_nil,Nat.reduceAdd,laid,List.getElem?_toArray,List.getElem?_cons_zero,List.getElem?_cons_succ,Option.bind_some,Act.put,List.setIfInBounds_toArray,List.set_cons_zero,List.set_cons_succ,q16,q17]
   clear q16 q17
   have HD2:=Lib.hid (HW.out.below hC)
   have HBC:=Lib.hid hBc
   have HBD:=Lib.hid (show B≠D by have:=HDL.out;omega)
   obtain⟨F2,hF2⟩:=HW.out
   have HBF:=Lib.hid (hF2.fresh hB.1)
   have HDF:=Lib.hid (hF2.below hC)
   have c0:=HD2.out.op
   clear hC hB hBc hF2
   by_cases h9:I.op=9
   ·have HM:=Lib.hid (HZ.out.trans (if_pos h9))
    have HR:=Lib.hid (range_in13 HBC.out 0 (flL false (par V) (zer V) (hi V I.size) false false) rfl)
    rw[h9]at c0
    clear h9 HZ
    go_wp2_with (refine wpList_load_mid rfl 25 (.tmp 6) rfl B 0 rfl (flL false (par V) (zer V) (hi V I.size) false false) _ HR.out Tryz.underlying25 rfl info_fl15 ?_)
    ((with_reducible refine(tell_fl15 _ _ _ _ _ _ _ HD2.out).mono ?_);rintro e w4 ⟨rfl,hd⟩)
    have HD4:=Lib.hid hd
    clear hd
    go_wp2_with fail
    exact bodyPost_end (v:=.tuple #[]) (by simp[results,Tryz.results63]) rfl ⟨by rw[HM.out];rfl,by rw[HM.out];exact HD4.out⟩
   ·have HM:=Lib.hid ((HZ.out.trans (if_neg h9)).trans (keep_eq15 g dd t I V false (par V) (zer V) (hi V I.size) false))
    have HP2:=Lib.hid (put_two g dd t I.a I.size V)
    have HPU:=Lib.hid (HPU.out V v0 v1)
    obtain⟨M,hM⟩:∃M,putZ g dd t I.a I.size V=M:=⟨_,rfl⟩
    rw[hM]at HPU HM HP2
    have e9:(I.op != 9)=true:=by simpa using h9
    have e9':(I.op==9)=false:=by simpa using h9
    have HRB:=Lib.hid (show DM u F2 D b g cc dd t I u from⟨F2,HDF.out.rebase⟩)
    clear hM h9 HZ
    go_wp2_with fail
    ((with_reducible refine(HPU.out u F2 _ HRB.out).mono ?_);rintro e w4 ⟨rfl,F3,hd⟩)
    have HD3:=Lib.hid (show DM w1 F0 D b M.g cc dd M.t I w4 from⟨F3,HDF.out.back hd⟩)
    have HR:=Lib.hid (range_in13 (hd.stays HBC.out HBF.out HBD.out) 0 (flL false (par V) (zer V) (hi V I.size) false false) rfl)
    clear hd c0 e9 e9'
    by_cases h:M.e=0
    ·have HM1:=Lib.hid (HM.out.trans (if_pos h))
     rw[endO_ok h]
     clear h HM HP2
     go_wp2_with (refine wpList_load_mid rfl 25 (.tmp 6) rfl B 0 rfl (flL false (par V) (zer V) (hi V I.size) false false) _ HR.out Tryz.underlying25 rfl info_fl15 ?_)
     ((with_reducible refine(tell_fl15 _ _ _ _ _ _ _ HD3.out).mono ?_);rintro e w5 ⟨rfl,hd⟩)
     have HD4:=Lib.hid hd
     clear hd
     go_wp2_with fail
     exact bodyPost_end (v:=.tuple #[]) (by simp[results,Tryz.results63]) rfl ⟨by rw[HM1.out];rfl,by rw[HM1.out];exact HD4.out⟩
    ·have HM1:=Lib.hid (HM.out.trans (if_neg h))
     have hm:M=⟨2,t,g⟩:=HP2.out.resolve_left h
     subst hm
     rw[endO_bad h]
     exact⟨rfl,by rw[HM1.out];rfl,by rw[HM1.out];exact HD3.out⟩
 ·have HZ:=Lib.hid (show logicZ g dd t I=⟨2,t,g⟩from HNO.out _ hE)
  rw[endB_bad hE]at HBO
  clear hE HOK HNO HL hop
  go_enter Tryz.func63,Tryz.ntmps63
  go_wp2_with fail
  ((with_reducible refine(HBO.out _ HD.out).mono ?_);rintro e w2 ⟨rfl,b1⟩)
  have HD1:=Lib.hid (HD.out.below b1)
  clear b1
  exact⟨rfl,by rw[HZ.out];rfl,by rw[HZ.out];exact HD1.out⟩
section
variable {w1:World} {F0:Nat→Prop} {D b:Nat} {g:Int→Int} {cc dd:Sg} {t:Sta} {I:Ins} {u:World}
def PairC(w1:World)(F0:Nat→Prop)(D b:Nat)(g:Int→Int)(cc dd:Sg)(t:Sta)(I:Ins)(u:World):Prop:=∃X Y,DM w1 F0 D b g cc dd { t with r:=putN (putN t.r 2 X) 0 Y } I u
def PairE(D p q i j:Nat)(A B:Int)(n:Nat)(u:World):Prop:=(n=i→u.cell? ⟨D,19+p,none⟩=some (.int .u32 A))∧(n=j→u.cell? ⟨D,19+q,none⟩=some (.int .u32 B))
theorem pair_start(h:DM w1 F0 D b g cc dd t I u):PairC w1 F0 D b g cc dd t I u:=by
 refine⟨t.r 2,t.r 0,?_⟩
 have e:putN (putN t.r 2 (t.r 2)) 0 (t.r 0)=t.r:=by
  funext k
  unfold putN
  by_cases h0:k=0
  ·rw[if_pos h0,h0]
  ·rw[if_neg h0]
   by_cases h2:k=2
   ·rw[if_pos h2,h2]
   ·rw[if_neg h2]
 rw[e]
 exact h
theorem pair_has(k:Nat)(hk:k=0∨k=2)(h:PairC w1 F0 D b g cc dd t I u):∃c,u.cell? ⟨D,19+k,none⟩=some c∧u.frozen? ⟨D,19+k,none⟩=false:=by
 obtain⟨X,Y,hd⟩:=h
 rcases hk with rfl|rfl
 ·exact⟨_,hd.get 19 _ rfl,hd.free 19⟩
 ·exact⟨_,hd.get 21 _ rfl,hd.free 21⟩
theorem pair_put(k:Nat)(hk:k=0∨k=2)(v:Int)(h:PairC w1 F0 D b g cc dd t I u):PairC w1 F0 D b g cc dd t I (u.setCell ⟨D,19+k,none⟩ (.int .u32 v))∧(u.setCell ⟨D,19+k,none⟩ (.int .u32 v)).cell? ⟨D,19+k,none⟩=some (.int .u32 v)∧∀m,m≠k→(u.setCell ⟨D,19+k,none⟩ (.int .u32 v)).cell? ⟨D,19+m,none⟩=u.cell? ⟨D,19+m,none⟩:=by
 obtain⟨X,Y,hd⟩:=h
 have ho:∀m,m≠k→(u.setCell ⟨D,19+k,none⟩ (.int .u32 v)).cell? ⟨D,19+m,none⟩=u.cell? ⟨D,19+m,none⟩:=fun m hm=>by
  have hne:(⟨D,19+k,none⟩:Addr)≠⟨D,19+m,none⟩:=fun e=>hm (by injection e with _ e _;omega)
  exact World.cell?_setCell_other (h:=hne) ..
 rcases hk with rfl|rfl
 ·have hY:=hd.cell (t':={ t with r:=putN (putN t.r 2 X) 0 v }) 19 (.int .u32 v) rfl (by kernel_rfl)
  exact⟨⟨X,v,hY⟩,hY.get 19 _ rfl,ho⟩
 ·have hY:=hd.cell (t':={ t with r:=putN (putN t.r 2 v) 0 Y }) 21 (.int .u32 v) rfl (by kernel_rfl)
  exact⟨⟨v,Y,hY⟩,hY.get 21 _ rfl,ho⟩
theorem pair_end(p q:Nat)(hk:p=2∧q=0∨p=0∧q=2){A B:Int}(h:PairC w1 F0 D b g cc dd t I u)(hA:u.cell? ⟨D,19+p,none⟩=some (.int .u32 A))(hB:u.cell? ⟨D,19+q,none⟩=some (.int .u32 B)):DM w1 F0 D b g cc dd { t with r:=putN (putN t.r p A) q B } I u:=by
 obtain⟨X,Y,hd⟩:=h
 rcases hk with⟨rfl,rfl⟩|⟨rfl,rfl⟩
 ·have h1:=(hd.get 21 (.int .u32 X) rfl).symm.trans hA
  have h2:=(hd.get 19 (.int .u32 Y) rfl).symm.trans hB
  cases h1
  cases h2
  exact hd
 ·have h1:=(hd.get 19 (.int .u32 Y) rfl).symm.trans hA
  have h2:=(hd.get 21 (.int .u32 X) rfl).symm.trans hB
  cases h1
  cases h2
  have e:∀a c,putN (putN t.r 0 a) 2 c=putN (putN t.r 2 c) 0 a:=fun a c=>by
   funext k
   unfold putN
   by_cases h0:k=0
   ·subst h0;rfl
   ·by_cases h2:k=2
    ·subst h2;rfl
    ·simp[h0,h2]
  rw[e]
  exact hd
end
theorem product_any15{w1:World}{F0:Nat→Prop}{D b:Nat}{g:Int→Int}{cc dd:Sg}{t:Sta}{I:Ins}(ht:StaOk t)(hA:0≤I.a.disp∧I.a.disp<4294967296)(hop:I.op=12∨I.op=13)(w:World)(hD:DM w1 F0 D b g cc dd t I w):
  Calls Tryz.prog 69 #[.pointer (some ⟨D,0,none⟩)] w fun e w'=>e=endO (prodZ g dd t I).e∧DM w1 F0 D b (prodZ g dd t I).g cc dd (prodZ g dd t I).t I w':=by
 have HFI:=Lib.hid (fun u (h:DM w1 F0 D b g cc dd t I u)=>first_any15 ht hA.1 hA.2 u h)
 have hx:=cut_lo (aldV g dd t I.a I.size) I.size
 have hx1:=cut_hi (aldV g dd t I.a I.size) I.size
 rw[show cut (aldV g dd t I.a I.size) I.size=lodV g dd t I.a I.size from rfl]at hx hx1
 have hz:=fun K=>oneZ_ok (g:=g) (dd:=dd) (t:=t) (I:=I) (J:=K)
 have hno:∀K,¬aldE dd t I.a I.size=0→oneZ g dd t I K=⟨2,t,g⟩:=fun K h=>oneZ_bad h
 obtain⟨Ea,h1⟩:∃E,aldE dd t I.a I.size=E:=⟨_,rfl⟩
 obtain⟨x,h2⟩:∃X,lodV g dd t I.a I.size=X:=⟨_,rfl⟩
 rw[h1,h2]at HFI hz
 rw[h1]at hno
 rw[h2]at hx hx1
 have HB:=Lib.hid (show ¬Ea=0→prodZ g dd t I=⟨2,t,g⟩from hno _)
 have r0:=ht.r 0 (by decide)
 have r2:=ht.r 2 (by decide)
 obtain⟨kk,fv,H,L,c,hfv,hMU,hZ,hK⟩:∃(kk:FuncId) (fv:Value) (H L:Int) (c:Bool),fv=.func (.func kk) #[] #[]∧(∀u,Calls Tryz.prog kk #[.agg (flL t.c t.p t.z t.s t.o t.d).toArray,.int .u32 (t.r 0),.int .u32 x] u fun e u'=>e=.returned (.tuple #[.int .u32 H,.int .u32 L,.agg (flL c t.p t.z t.s c t.d).toArray])∧Below u.heap.size u u')∧(Ea=0→prodZ g dd t I=⟨0,{ t with r:=putN (putN t.r 2 H) 0 L,c:=c,o:=c },g⟩)∧((I.op=12∧kk=93)∨(I.op=13∧kk=94)):=by
  rcases hop with h|h
  ·exact⟨93,_,mulH (t.r 0) x,mulL (t.r 0) x,mulC (t.r 0) x,rfl,fun u=>mul_any _ _ _ _ _ _ _ _ r0.1 r0.2 hx hx1 u,fun e=>(hz _ e).trans (if_neg (by omega)),.inl ⟨h,rfl⟩⟩
  ·exact⟨94,_,imulH (t.r 0) x,imulL (t.r 0) x,imulC (t.r 0) x,rfl,fun u=>imul_any _ _ _ _ _ _ _ _ r0.1 r0.2 hx hx1 u,fun e=>(hz _ e).trans (if_pos h),.inr ⟨h,rfl⟩⟩
 have HMU:=Lib.hid hMU
 have HZ:=Lib.hid hZ
 have HF:=Lib.hid hfv
 have HD:=Lib.hid hD
 clear hMU hZ hfv hD hz hno hx hx1 r0 r2 h1 h2 ht hA hop
 obtain⟨X1,X2,X3,X4,X5,hX⟩:∃X1 X2 X3 X4 X5:Option Value,(Ea=0∧X1=some (.int .u32 (x))∧X2=some (.tuple #[.int .u32 (H),.int .u32 (L),.agg (flL c t.p t.z t.s c t.d).toArray])∧X3=some (.int .u32 (H))∧X4=some (.int .u32 (L))∧X5=some (.agg (flL c t.p t.z t.s c t.d).toArray))∨(¬Ea=0∧X1=none∧X2=none∧X3=none∧X4=none∧X5=none):=by
  by_cases h:Ea=0
  ·exact⟨_,_,_,_,_,.inl ⟨h,rfl,rfl,rfl,rfl,rfl⟩⟩
  ·exact⟨_,_,_,_,_,.inr ⟨h,rfl,rfl,rfl,rfl,rfl⟩⟩
 have HX:=Lib.hid hX
 clear hX
 rcases hK with⟨h,rfl⟩|⟨h,rfl⟩
 all_goals
  have c0:=HD.out.op
  rw[h]at c0
  clear h
  go_enter Tryz.func69,Tryz.ntmps69
  go_upto_region 4 with fail
  rw[←HF.out]
  clear c0
  refine wp_region_made (γ:=Unit) (by kernel_rfl) (fun n=>n==20) 17 20 12 rfl rfl (by decide) (by decide) (by kernel_rfl) (fun u _=>Below w.heap.size w u) () (fun u _ B=>w.heap.size≤B∧B<u.heap.size) (fun _ _=>True) 25 (flL c t.p t.z t.s c t.d) info_fl15 (flL_one _ _ _ _ _ _)
   [some (fv),some (.pointer (some ⟨D,0,none⟩)),some (.pointer (some ⟨D,0,none⟩)),some (.pointer (some ⟨D,19,none⟩)),some (.pointer (some ⟨D,28,none⟩)),some (.agg (flL t.c t.p t.z t.s t.o t.d).toArray),some (.pointer (some ⟨D,19,none⟩)),some (.pointer (some ⟨D,19,none⟩)),some (.pointer (some ⟨D,19,none⟩)),some (.int .u32 (t.r 0)),some (.pointer (some ⟨D,0,none⟩)),X1,X2,X2,X3,X4,X5,none,X3,X4,none] [(2,1,19),(3,2,20),(4,3,21),(5,4,22),(7,6,24),(8,7,25),(9,8,26),(13,12,30),(14,13,17),(15,13,17),(16,13,17),(18,14,31),(19,15,32)]
   [(0,2),(1,0),(6,3),(10,0)] [11,12] (by decide) (by decide) (by decide) (by decide) ?_ ?_ ((Below.refl _ _).drew) _ _ rfl rfl #[.bool false,.bool false,.bool false,.bool false,.bool false,.bool false] rfl (fun _ _=>by simp[execOp,go_sem]<;>rfl) 6 33 16 rfl rfl rfl (by kernel_rfl) (by kernel_rfl) (by decide) (HX.out.elim (fun h=>.inr h.2.2.2.2.2) (fun h=>.inl h.2.2.2.2.2)) rfl (fun u _ hC=>bl_new hC _ _ _) (fun u _ B hC hB=>bl_put hC hB _) ?_ ?_ (by decide)
  ·repeat' apply And.intro
   all_goals first
    |trivial
    |exact⟨_,rfl,by kernel_rfl,rfl,rfl,rfl,fun _=>rfl,fun _ h=>⟨_,rfl,fun _ _=>by cases h;rfl⟩⟩
    |exact⟨_,rfl,by kernel_rfl,rfl,rfl,rfl,fun _=>rfl,fun _ h=>⟨_,h,fun _ _=>rfl⟩⟩
    |exact⟨_,rfl,by kernel_rfl,rfl,rfl,rfl,fun _=>rfl,fun _ h=>HX.out.elim (fun q=>by obtain⟨_,x1,x2,x3,x4,x5⟩:=q;(first|cases x2.symm.trans h|fail);first|exact⟨_,x3,fun _ _=>rfl⟩|exact⟨_,x4,fun _ _=>rfl⟩|exact⟨_,x5,fun _ _=>rfl⟩|fail) (fun q=>by obtain⟨_,x1,x2,x3,x4,x5⟩:=q;first|cases x2.symm.trans h|fail)⟩
    |exact⟨_,rfl,by kernel_rfl,rfl,rfl,rfl,fun _=>rfl,fun _ h=>⟨_,rfl,fun _ hu=>by cases h;obtain⟨_,hu⟩:=hu;exact ld1 (lo_fls (HD.out.below hu))⟩⟩
    |exact⟨_,rfl,by kernel_rfl,rfl,rfl,rfl,fun _=>rfl,fun _ h=>⟨_,rfl,fun _ hu=>by cases h;obtain⟨_,hu⟩:=hu;exact ld1 (lo_r0 (HD.out.below hu))⟩⟩
  ·repeat' apply And.intro
   all_goals first
    |trivial
    |exact⟨_,rfl,by kernel_rfl,rfl,fun _=>rfl,_,rfl,fun _ _=>rfl⟩
  ·intro n op f u F hn ho hC hdf hbase hdep
   have hdep:=fun j (h1:j≠17∧j≠20) hj=>hdep j h1.1 h1.2 hj
   rcases(show n=11∨n=12 by simpa using hn)with rfl|rfl
   ·cases ho
    have e28:f.tmps.getD 28 undef=.pointer (some ⟨D,0,none⟩):=tab_at (hdep 10 (by decide) (by kernel_rfl))
    rcases HX.out with⟨hE,x1,x2,x3,x4,x5⟩|⟨hE,x1,x2,x3,x4,x5⟩
    ·refine wp_call (by simp[execOp,Act.eval,e28,go_sem]<;>rfl) ((HFI.out u (HD.out.below hC)).mono ?_)
     rintro e u2 ⟨rfl,hb⟩
     rw[endL_ok hE]
     exact⟨_,rfl,_,(),rfl,below_step hC hb,bl_call hb _ _,x1,fun e=>absurd e (by decide)⟩
    ·refine wp_call_or (by simp[execOp,Act.eval,e28,go_sem]<;>rfl) ((HFI.out u (HD.out.below hC)).mono ?_)
     rintro e u2 ⟨rfl,hb⟩
     exact .inr ⟨_,endL_bad hE,hdf,by rw[HB.out hE];rfl,by rw[HB.out hE];exact HD.out.below (below_step hC hb)⟩
   ·cases ho
    rcases HX.out with⟨hE,x1,x2,x3,x4,x5⟩|⟨hE,x1,x2,x3,x4,x5⟩
    ·have e18:f.tmps.getD 18 undef=fv:=tab_at (hdep 0 (by decide) (by kernel_rfl))
     have e23:f.tmps.getD 23 undef=.agg (flL t.c t.p t.z t.s t.o t.d).toArray:=tab_at (hdep 5 (by decide) (by kernel_rfl))
     have e27:f.tmps.getD 27 undef=.int .u32 (t.r 0):=tab_at (hdep 9 (by decide) (by kernel_rfl))
     have e29:f.tmps.getD 29 undef=.int .u32 (x):=tab_at (x1.symm.trans (hdep 11 (by decide) (by kernel_rfl)))
     refine wp_call (by simp[execOp,Act.eval,e18,e23,e27,e29,go_sem,HF.out]<;>rfl) ((HMU.out u).mono ?_)
     rintro e u2 ⟨rfl,hb⟩
     exact⟨_,rfl,_,(),rfl,below_step hC hb,bl_call hb _ _,x2,fun _=>trivial⟩
    ·cases x1.symm.trans (hdep 11 (by decide) (by kernel_rfl))
  ·intro f u4 F hC _ hV hB
   have hx:=hV 11 (by decide) (by decide) (by decide)
   rcases HX.out with⟨hE,x1,x2,x3,x4,x5⟩|⟨hE,x1,x2,x3,x4,x5⟩
   ·obtain⟨B,q17,hB,hBc⟩:=hB
    have q18:f 18=.int .u32 H:=tab_at (x3.symm.trans (hV 18 (by decide) (by decide) (by decide)))
    have q19:f 19=.int .u32 L:=tab_at (x4.symm.trans (hV 19 (by decide) (by decide) (by decide)))
    clear hV hx x1 x2 x3 x4 x5
    simp only[List.size_toArray,List.length_cons,List.length_nil,Nat.reduceAdd,laid,List.getElem?_toArray,List.getElem?_cons_zero,List.getElem?_cons_succ,Option.bind_some,Act.put,List.setIfInBounds_toArray,List.set_cons_zero,List.set_cons_succ,q17,q18,q19]
    clear q17 q18 q19
    have HM:=Lib.hid (HZ.out hE)
    obtain⟨F2,hF0⟩:=HD.out
    have hF2:=hF0.below hC
    have HBC:=Lib.hid hBc
    have HBD:=Lib.hid (show B≠D by have:=HD.out.lt;omega)
    have HBF:=Lib.hid (hF0.fresh hB.1)
    have HDF:=Lib.hid hF2
    clear hE hC hB hBc hF2 hF0
    go_wp2_with fail
    refine wp_region_autoE (by kernel_rfl) (fun n=>n==6 || n==9) (by kernel_rfl) (PairC u4 F2 D b g cc dd t I) (PairE D 2 0 6 9 H L) ([some (.pointer (some ⟨D,19,none⟩)),some (.pointer (some ⟨D,19,none⟩)),some (.int .u32 (H)),some (.int .u32 (L)),some (.pointer (some ⟨D,19,none⟩)),some (.pointer (some ⟨D,21,none⟩)),some (undef),some (.pointer (some ⟨D,19,none⟩)),some (.pointer (some ⟨D,19,none⟩)),some (undef)])
     [(4,0,34),(5,4,38),(7,1,35),(8,7,40)] [(0,3),(1,3),(2,4),(3,5)] [6,9] (by decide) (fun i hi u=>⟨fun e=>absurd (e ▸ hi) (by decide),fun e=>absurd (e ▸ hi) (by decide)⟩) ?_ ?_ (pair_start (show DM u4 F2 D b g cc dd t I _ from(show DM u4 F2 D b g cc dd t I u4 from⟨F2,HDF.out.rebase⟩).drew)) ?_ ?_
    ·repeat' apply And.intro
     all_goals first
      |trivial
      |exact⟨_,rfl,by kernel_rfl,rfl,rfl,rfl,fun _=>rfl,fun _ h=>⟨_,rfl,fun _ _=>by cases h;rfl⟩⟩
    ·repeat' apply And.intro
     all_goals first
      |trivial
      |exact⟨_,rfl,by kernel_rfl,rfl,fun _=>rfl,_,rfl,fun _ _=>rfl⟩
    ·intro n op f u hn ho hinv hdf hbase hdep
     rcases(show n=6∨n=9 by simpa using hn)with rfl|rfl
     ·cases ho
      have e39:f.tmps.getD 39 undef=.pointer (some ⟨D,21,none⟩):=tab_at (hdep 5 (by kernel_rfl)).1
      have e36:f.tmps.getD 36 undef=.int .u32 (H):=tab_at (hdep 2 (by kernel_rfl)).1
      obtain⟨h1,h2,h3⟩:=pair_put 2 (by decide) H hinv
      obtain⟨c,hc,hz⟩:=pair_has 2 (by decide) hinv
      refine wp_skip (u':=u.setCell ⟨D,19+2,none⟩ (.int .u32 H)) (by simp[execOp,Act.eval,e39,e36,hc,hz,go_sem]<;>rfl) ⟨undef,rfl,h1,rfl,?_,?_⟩
      ·exact⟨fun e=>h2,fun e=>absurd e (by decide)⟩
      ·exact fun j hj=>⟨fun e=>h2,fun e=>(h3 0 (by decide)).trans (hj.2 e)⟩
     ·cases ho
      have e41:f.tmps.getD 41 undef=.pointer (some ⟨D,19,none⟩):=tab_at (hdep 8 (by kernel_rfl)).1
      have e37:f.tmps.getD 37 undef=.int .u32 (L):=tab_at (hdep 3 (by kernel_rfl)).1
      obtain⟨h1,h2,h3⟩:=pair_put 0 (by decide) L hinv
      obtain⟨c,hc,hz⟩:=pair_has 0 (by decide) hinv
      refine wp_skip (u':=u.setCell ⟨D,19+0,none⟩ (.int .u32 L)) (by simp[execOp,Act.eval,e41,e37,hc,hz,go_sem]<;>rfl) ⟨undef,rfl,h1,rfl,?_,?_⟩
      ·exact⟨fun e=>absurd e (by decide),fun e=>h2⟩
      ·exact fun j hj=>⟨fun e=>(h3 2 (by decide)).trans (hj.1 e),fun e=>h2⟩
    ·intro f u hinv hV
     have HP:=Lib.hid (pair_end 2 0 (by decide) hinv ((hV 6 (by decide)).2.1 rfl) ((hV 9 (by decide)).2.2 rfl))
     clear hV hinv
     simp only[List.size_toArray,List.length_cons,List.length_nil,Nat.reduceAdd,laid,List.getElem?_toArray,List.getElem?_cons_zero,List.getElem?_cons_succ,Option.bind_some,Act.put,List.setIfInBounds_toArray,List.set_cons_zero,List.set_cons_succ]
     obtain⟨F3,hd⟩:=HP.out
     have HD3:=Lib.hid (show DM w1 F0 D b g cc dd { t with r:=putN (putN t.r 2 H) 0 L } I u from⟨F3,HDF.out.back hd⟩)
     have HR:=Lib.hid (range_in13 (hd.stays HBC.out HBF.out HBD.out) 0 (flL c t.p t.z t.s c t.d) rfl)
     clear hd HP
     go_wp2_with (refine wpList_load_mid rfl 25 (.tmp 6) rfl B 0 rfl (flL c t.p t.z t.s c t.d) _ HR.out Tryz.underlying25 rfl info_fl15 ?_)
     ((with_reducible refine(tell_fl15 _ _ _ _ _ _ _ HD3.out).mono ?_);rintro e w5 ⟨rfl,hd⟩)
     have HD4:=Lib.hid hd
     clear hd
     go_wp2_with fail
     exact bodyPost_end (v:=.tuple #[]) (by simp[results,Tryz.results69]) rfl ⟨by rw[HM.out];rfl,by rw[HM.out];exact HD4.out⟩
   ·cases x1.symm.trans hx
theorem quotient_any15{w1:World}{F0:Nat→Prop}{D b:Nat}{g:Int→Int}{cc dd:Sg}{t:Sta}{I:Ins}(ht:StaOk t)(hA:0≤I.a.disp∧I.a.disp<4294967296)(hop:I.op=14∨I.op=15)(w:World)(hD:DM w1 F0 D b g cc dd t I w):
  Calls Tryz.prog 70 #[.pointer (some ⟨D,0,none⟩)] w fun e w'=>e=endO (quotZ g dd t I).e∧DM w1 F0 D b (quotZ g dd t I).g cc dd (quotZ g dd t I).t I w':=by
 have HFI:=Lib.hid (fun u (h:DM w1 F0 D b g cc dd t I u)=>first_any15 ht hA.1 hA.2 u h)
 have hx:=cut_lo (aldV g dd t I.a I.size) I.size
 have hx1:=cut_hi (aldV g dd t I.a I.size) I.size
 rw[show cut (aldV g dd t I.a I.size) I.size=lodV g dd t I.a I.size from rfl]at hx hx1
 have hz:=fun K=>oneZ_ok (g:=g) (dd:=dd) (t:=t) (I:=I) (J:=K)
 have hno:∀K,¬aldE dd t I.a I.size=0→oneZ g dd t I K=⟨2,t,g⟩:=fun K h=>oneZ_bad h
 obtain⟨Ea,h1⟩:∃E,aldE dd t I.a I.size=E:=⟨_,rfl⟩
 obtain⟨x,h2⟩:∃X,lodV g dd t I.a I.size=X:=⟨_,rfl⟩
 rw[h1,h2]at HFI hz
 rw[h1]at hno
 rw[h2]at hx hx1
 have HB:=Lib.hid (show ¬Ea=0→quotZ g dd t I=⟨2,t,g⟩from hno _)
 have r0:=ht.r 0 (by decide)
 have r2:=ht.r 2 (by decide)
 obtain⟨kk,fv,q,m,ok,hfv,hMU,hZ,hK⟩:∃(kk:FuncId) (fv:Value) (q m:Int) (ok:Bool),fv=.func (.func kk) #[] #[]∧(∀u,Calls Tryz.prog kk #[.int .u32 (t.r 2),.int .u32 (t.r 0),.int .u32 x] u fun e u'=>e=.returned (.tuple #[.int .u32 q,.int .u32 m,.bool ok])∧Below u.heap.size u u')∧(Ea=0→quotZ g dd t I=if ok then⟨0,{ t with r:=putN (putN t.r 0 q) 2 m },g⟩else⟨3,t,g⟩)∧((I.op=14∧kk=95)∨(I.op=15∧kk=96)):=by
  rcases hop with h|h
  ·exact⟨95,_,divQ (t.r 2) (t.r 0) x,divR (t.r 2) (t.r 0) x,divOk (t.r 2) x,rfl,fun u=>div_any _ _ _ r2.1 r2.2 r0.1 r0.2 hx hx1 u,fun e=>(hz _ e).trans (if_neg (by omega)),.inl ⟨h,rfl⟩⟩
  ·exact⟨96,_,idQ (t.r 2) (t.r 0) x,idR (t.r 2) (t.r 0) x,idOk (t.r 2) (t.r 0) x,rfl,fun u=>idiv_any _ _ _ r2.1 r2.2 r0.1 r0.2 hx hx1 u,fun e=>(hz _ e).trans (if_pos h),.inr ⟨h,rfl⟩⟩
 have HMU:=Lib.hid hMU
 have HZ:=Lib.hid hZ
 have HF:=Lib.hid hfv
 have HD:=Lib.hid hD
 clear hMU hZ hfv hD hz hno hx hx1 r0 r2 h1 h2 ht hA hop
 obtain⟨X1,X2,X3,X4,X5,hX⟩:∃X1 X2 X3 X4 X5:Option Value,(Ea=0∧X1=some (.int .u32 (x))∧X2=some (.tuple #[.int .u32 (q),.int .u32 (m),.bool ok])∧X3=some (.int .u32 (q))∧X4=some (.int .u32 (m))∧X5=some (.bool ok))∨(¬Ea=0∧X1=none∧X2=none∧X3=none∧X4=none∧X5=none):=by
  by_cases h:Ea=0
  ·exact⟨_,_,_,_,_,.inl ⟨h,rfl,rfl,rfl,rfl,rfl⟩⟩
  ·exact⟨_,_,_,_,_,.inr ⟨h,rfl,rfl,rfl,rfl,rfl⟩⟩
 have HX:=Lib.hid hX
 clear hX
 rcases hK with⟨h,rfl⟩|⟨h,rfl⟩
 all_goals
  have c0:=HD.out.op
  rw[h]at c0
  clear h
  go_enter Tryz.func70,Tryz.ntmps70
  go_upto_region 4 with fail
  rw[←HF.out]
  clear c0
  refine wp_region_auto (by kernel_rfl) (fun n=>false) (by kernel_rfl) (DB w w1 F0 D b g cc dd t I) [some (fv),some (.pointer (some ⟨D,19,none⟩)),some (.pointer (some ⟨D,19,none⟩)),some (.pointer (some ⟨D,21,none⟩)),some (.int .u32 (t.r 2)),some (.pointer (some ⟨D,19,none⟩)),some (.pointer (some ⟨D,19,none⟩)),some (.pointer (some ⟨D,19,none⟩)),some (.int .u32 (t.r 0)),some (.pointer (some ⟨D,0,none⟩)),X1,X2,X2,X3,X4,X5,X3,X4,X5]
   [(2,1,19),(3,2,20),(4,3,21),(6,5,23),(7,6,24),(8,7,25),(12,11,29),(13,12,17),(14,12,17),(15,12,17),(16,13,30),(17,14,31),(18,15,32)] [(0,2),(1,3),(5,3),(9,0)] [10,11] (by decide) ?_ ?_ (DB.start HD.out) ?_ ?_
  ·repeat' apply And.intro
   all_goals first
    |trivial
    |exact⟨_,rfl,by kernel_rfl,rfl,rfl,rfl,fun _=>rfl,fun _ h=>⟨_,rfl,fun _ _=>by cases h;rfl⟩⟩
    |exact⟨_,rfl,by kernel_rfl,rfl,rfl,rfl,fun _=>rfl,fun _ h=>⟨_,h,fun _ _=>rfl⟩⟩
    |exact⟨_,rfl,by kernel_rfl,rfl,rfl,rfl,fun _=>rfl,fun _ h=>HX.out.elim (fun q=>by obtain⟨_,x1,x2,x3,x4,x5⟩:=q;(first|cases x2.symm.trans h|fail);first|exact⟨_,x3,fun _ _=>rfl⟩|exact⟨_,x4,fun _ _=>rfl⟩|exact⟨_,x5,fun _ _=>rfl⟩|fail) (fun q=>by obtain⟨_,x1,x2,x3,x4,x5⟩:=q;first|cases x2.symm.trans h|fail)⟩
    |exact⟨_,rfl,by kernel_rfl,rfl,rfl,rfl,fun _=>rfl,fun _ h=>⟨_,rfl,fun _ hu=>by cases h;exact ld1 (lo_r0 hu.dm)⟩⟩
    |exact⟨_,rfl,by kernel_rfl,rfl,rfl,rfl,fun _=>rfl,fun _ h=>⟨_,rfl,fun _ hu=>by cases h;exact ld1 (lo_r2 hu.dm)⟩⟩
  ·repeat' apply And.intro
   all_goals first
    |trivial
    |exact⟨_,rfl,by kernel_rfl,rfl,fun _=>rfl,_,rfl,fun _ _=>rfl⟩
  ·intro n op f u hn ho hinv hdf hbase hdep
   rcases(show n=10∨n=11 by simpa using hn)with rfl|rfl
   ·cases ho
    have e27:f.tmps.getD 27 undef=.pointer (some ⟨D,0,none⟩):=tab_at (hdep 9 (by kernel_rfl))
    rcases HX.out with⟨hE,x1,x2,x3,x4,x5⟩|⟨hE,x1,x2,x3,x4,x5⟩
    ·refine wp_call (by simp[execOp,Act.eval,e27,go_sem]<;>rfl) ((HFI.out u hinv.dm).mono ?_)
     rintro e u2 ⟨rfl,hb⟩
     rw[endL_ok hE]
     exact⟨_,rfl,_,rfl,hinv.below hb,x1⟩
    ·refine wp_call_or (by simp[execOp,Act.eval,e27,go_sem]<;>rfl) ((HFI.out u hinv.dm).mono ?_)
     rintro e u2 ⟨rfl,hb⟩
     exact .inr ⟨_,endL_bad hE,hdf,by rw[HB.out hE];rfl,by rw[HB.out hE];exact(hinv.below hb).dm⟩
   ·cases ho
    rcases HX.out with⟨hE,x1,x2,x3,x4,x5⟩|⟨hE,x1,x2,x3,x4,x5⟩
    ·have e18:f.tmps.getD 18 undef=fv:=tab_at (hdep 0 (by kernel_rfl))
     have e22:f.tmps.getD 22 undef=.int .u32 (t.r 2):=tab_at (hdep 4 (by kernel_rfl))
     have e26:f.tmps.getD 26 undef=.int .u32 (t.r 0):=tab_at (hdep 8 (by kernel_rfl))
     have e28:f.tmps.getD 28 undef=.int .u32 (x):=tab_at (x1.symm.trans (hdep 10 (by kernel_rfl)))
     refine wp_call (by simp[execOp,Act.eval,e18,e22,e26,e28,go_sem,HF.out]<;>rfl) ((HMU.out u).mono ?_)
     rintro e u2 ⟨rfl,hb⟩
     exact⟨_,rfl,_,rfl,hinv.below hb,x2⟩
    ·cases x1.symm.trans (hdep 10 (by kernel_rfl))
  ·intro f u4 hinv hV
   have hx:=hV 10 (by decide)
   rcases HX.out with⟨hE,x1,x2,x3,x4,x5⟩|⟨hE,x1,x2,x3,x4,x5⟩
   ·have qa:f 16=.int .u32 q:=tab_at (x3.symm.trans (hV 16 (by decide)))
    have qb:f 17=.int .u32 m:=tab_at (x4.symm.trans (hV 17 (by decide)))
    have qc:f 18=.bool ok:=tab_at (x5.symm.trans (hV 18 (by decide)))
    clear hV hx x1 x2 x3 x4 x5
    simp only[List.size_toArray,List.length_cons,List.length_nil,Nat.reduceAdd,laid,List.getElem?_toArray,List.getElem?_cons_zero,List.getElem?_cons_succ,Option.bind_some,Act.put,List.setIfInBounds_toArray,List.set_cons_zero,List.set_cons_succ,qa,qb,qc]
    clear qa qb qc
    have HM:=Lib.hid (HZ.out hE)
    have HD2:=Lib.hid hinv.dm
    clear hE hinv
    cases ok with
    |false=>
     have HM1:=Lib.hid (HM.out.trans (if_neg (by decide)))
     clear HM
     go_wp2_with fail
     exact⟨rfl,by rw[HM1.out];rfl,by rw[HM1.out];exact HD2.out⟩
    |true=>
     have HM1:=Lib.hid (HM.out.trans (if_pos rfl))
     clear HM
     go_wp2_with fail
     refine wp_region_autoE (by kernel_rfl) (fun n=>n==6 || n==9) (by kernel_rfl) (PairC w1 F0 D b g cc dd t I) (PairE D 0 2 6 9 q m) ([some (.pointer (some ⟨D,19,none⟩)),some (.pointer (some ⟨D,19,none⟩)),some (.int .u32 (q)),some (.int .u32 (m)),some (.pointer (some ⟨D,19,none⟩)),some (.pointer (some ⟨D,19,none⟩)),some (undef),some (.pointer (some ⟨D,19,none⟩)),some (.pointer (some ⟨D,21,none⟩)),some (undef)])
      [(4,0,36),(5,4,40),(7,1,37),(8,7,42)] [(0,3),(1,3),(2,4),(3,5)] [6,9] (by decide) (fun i hi u=>⟨fun e=>absurd (e ▸ hi) (by decide),fun e=>absurd (e ▸ hi) (by decide)⟩) ?_ ?_ (pair_start HD2.out.drew) ?_ ?_
     ·repeat' apply And.intro
      all_goals first
       |trivial
       |exact⟨_,rfl,by kernel_rfl,rfl,rfl,rfl,fun _=>rfl,fun _ h=>⟨_,rfl,fun _ _=>by cases h;rfl⟩⟩
     ·repeat' apply And.intro
      all_goals first
       |trivial
       |exact⟨_,rfl,by kernel_rfl,rfl,fun _=>rfl,_,rfl,fun _ _=>rfl⟩
     ·intro n op f u hn ho hinv hdf hbase hdep
      rcases(show n=6∨n=9 by simpa using hn)with rfl|rfl
      ·cases ho
       have e41:f.tmps.getD 41 undef=.pointer (some ⟨D,19,none⟩):=tab_at (hdep 5 (by kernel_rfl)).1
       have e38:f.tmps.getD 38 undef=.int .u32 (q):=tab_at (hdep 2 (by kernel_rfl)).1
       obtain⟨h1,h2,h3⟩:=pair_put 0 (by decide) q hinv
       obtain⟨c,hc,hz⟩:=pair_has 0 (by decide) hinv
       refine wp_skip (u':=u.setCell ⟨D,19+0,none⟩ (.int .u32 q)) (by simp[execOp,Act.eval,e41,e38,hc,hz,go_sem]<;>rfl) ⟨undef,rfl,h1,rfl,?_,?_⟩
       ·exact⟨fun e=>h2,fun e=>absurd e (by decide)⟩
       ·exact fun j hj=>⟨fun e=>h2,fun e=>(h3 2 (by decide)).trans (hj.2 e)⟩
      ·cases ho
       have e43:f.tmps.getD 43 undef=.pointer (some ⟨D,21,none⟩):=tab_at (hdep 8 (by kernel_rfl)).1
       have e39:f.tmps.getD 39 undef=.int .u32 (m):=tab_at (hdep 3 (by kernel_rfl)).1
       obtain⟨h1,h2,h3⟩:=pair_put 2 (by decide) m hinv
       obtain⟨c,hc,hz⟩:=pair_has 2 (by decide) hinv
       refine wp_skip (u':=u.setCell ⟨D,19+2,none⟩ (.int .u32 m)) (by simp[execOp,Act.eval,e43,e39,hc,hz,go_sem]<;>rfl) ⟨undef,rfl,h1,rfl,?_,?_⟩
       ·exact⟨fun e=>absurd e (by decide),fun e=>h2⟩
       ·exact fun j hj=>⟨fun e=>(h3 0 (by decide)).trans (hj.1 e),fun e=>h2⟩
     ·intro f u hinv hV
      have HP:=Lib.hid (pair_end 0 2 (by decide) hinv ((hV 6 (by decide)).2.1 rfl) ((hV 9 (by decide)).2.2 rfl))
      clear hV hinv
      simp only[List.size_toArray,List.length_cons,List.length_nil,Nat.reduceAdd,laid,List.getElem?_toArray,List.getElem?_cons_zero,List.getElem?_cons_succ,Option.bind_some,Act.put,List.setIfInBounds_toArray,List.set_cons_zero,List.set_cons_succ]
      exact bodyPost_end (v:=.tuple #[]) (by simp[results,Tryz.results70]) rfl ⟨by rw[HM1.out];rfl,by rw[HM1.out];exact HP.out⟩
   ·cases x1.symm.trans hx
end Go.Proofs.YtmdncgfheeijaaaGreat
