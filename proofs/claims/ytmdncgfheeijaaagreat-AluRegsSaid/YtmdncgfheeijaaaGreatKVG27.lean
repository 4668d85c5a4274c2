import Derived.Laws.BitsAllLaws
import Derived.Deep.RegionWith
import Derived.BigQuiet
import Derived.Deep.QuietTactic
import Derived.KernelRfl
import Derived.Great.BuildSlice
import Derived.Tactics
import Derived.Defers
import Derived.Recover
import Derived.WalkLawsBesides
import Derived.Test.YtmdncgfheeijaaaGreatKVG26
namespace Go.Proofs.YtmdncgfheeijaaaGreat
section
open Go.ChangeShapes Go.WideShapes Go.ChangeAt Go.RowKit
set_option maxRecDepth 100000
def headsL:List (List Int):=[[1],[3],[0],[2],[5],[4],[17],[25],[33],[41],[49],[57],[11],[64],[73],[80],[90],[104],[106],[105],[107],[112],[128],[129],[131],[132],[133],[134],[135],[136],[137],[138],[139],[141],[143],[144],[147],[152],[153],[160],[161],[162],[163],[164],[165],[168],[169],[170],[171],[172],[173],[177],[185],[193],[194],[195],[198],[199],[201],[204],[209],[211],[232],[233],[235],[244],[245],[246],[247],[248],[249],[252],[253],[254],[255],[15,68],[15,133],[15,159],[15,175],[15,182],[15,183],[15,190],[15,191],[243,164],[243,165],[243,170],[243,171],[242,15,16],[242,15,17],[242,15,42],[242,15,44],[242,15,81],[242,15,88],[242,15,89],[242,15,92],[242,15,93],[242,15,94],[242,15,95],[102,15,46]]
def hdS(l:List Int):Value:=.string ⟨(l.map fun i=>UInt8.ofNat i.toNat).toArray⟩
def headsA:Array Value:=(headsL.map hdS).toArray
def headF(k:Int):List Int:=headsL.getD (k%99).toNat []
theorem heads_all:headsL.all (fun l=>decide (1≤l.length)&&decide (l.length≤3)&&l.all fun i=>decide (0≤i)&&decide (i<256))=true:=by kernel_rfl
theorem heads_len:headsL.length=99:=by kernel_rfl
theorem head_ok(k:Int):1≤(headF k).length∧(headF k).length≤3∧∀i∈headF k,0≤i∧i<256:=by
 have hk:(k%99).toNat<headsL.length:=by rw[heads_len];omega
 have hm:headF k∈headsL:=by
  unfold headF
  rw[List.getD_eq_getElem?_getD,List.getElem?_eq_getElem hk]
  exact List.getElem_mem hk
 have h:=List.all_eq_true.1 heads_all _ hm
 simp only[Bool.and_eq_true,decide_eq_true_eq,List.all_eq_true]at h
 exact⟨h.1.1,h.1.2,h.2⟩
theorem heads_at(k:Int):headsA[(k%99).toNat]?=some (hdS (headF k)):=by
 have hk:(k%99).toNat<headsL.length:=by rw[heads_len];omega
 unfold headsA headF
 simp[List.getElem?_eq_getElem hk]
set_option maxHeartbeats 4000000
theorem heads_any(w:World):Calls Tryz.prog 27 #[] w fun e w'=>e=.returned (.slice (some ⟨w.heap.size,0,none⟩) 99 99)∧w'=w.alloc (.cells headsA 9):=by
 obtain⟨ie,hie,hz,hsz⟩:∃ie,Tryz.prog.info? 9=some ie∧ie.zero=some (.string ⟨#[]⟩)∧ie.size=1:=by
  have h:(Tryz.prog.info? 9).map (fun i=>(i.zero,i.size))=some (some (.string ⟨#[]⟩),1):=by kernel_rfl
  cases hi:Tryz.prog.info? 9 with
  |none=>rw[hi]at h;cases h
  |some i=>
   rw[hi]at h
   simp only[Option.map_some,Option.some.injEq,Prod.mk.injEq]at h
   exact⟨i,rfl,h.1,h.2⟩
 go_enter Tryz.func27,Tryz.ntmps27
 go_wp2_with (refine wpList_buildSlice rfl 43 9 99 _ rfl headsA ie (.string ⟨#[]⟩) Tryz.underlying43 hie hz (by rw[hsz];decide) (by rw[hsz];decide) (by rw[hsz];kernel_rfl) ?_)
 go_ret
 exact⟨rfl,rfl⟩
theorem and63(z:Int)(h0:0≤z)(h1:z<256):bits .and .u8 z 63=z%64:=by
 obtain⟨n,rfl⟩:=Int.eq_ofNat_of_zero_le h0
 have hn:n<256:=by omega
 revert hn
 clear h0 h1
 revert n
 decide +kernel
theorem and127(z:Int)(h0:0≤z)(h1:z<256):bits .and .u8 z 127=z%128:=by
 obtain⟨n,rfl⟩:=Int.eq_ofNat_of_zero_le h0
 have hn:n<256:=by omega
 revert hn
 clear h0 h1
 revert n
 decide +kernel
def bytesF(k rm d:Int):List Int:=headF k++(if d%4=0 then[rm,d%256,d/256%256,d/65536%256,d/16777216]else[rm,d%128,0,0,0])++[d/8%64,0,0,0,0,0,0]
theorem bytesF_len(k rm d:Int):13≤(bytesF k rm d).length∧(bytesF k rm d).length≤15:=by
 obtain⟨h1,h2,_⟩:=head_ok k
 unfold bytesF
 simp only[List.length_append]
 split<;>simp<;>omega
theorem bytesF_ok(k rm d:Int)(r0:0≤rm)(r1:rm<256)(d0:0≤d)(d1:d<4294967296):∀x∈bytesF k rm d,0≤x∧x<256:=by
 intro x hx
 unfold bytesF at hx
 rcases List.mem_append.1 hx with hx|hx
 ·rcases List.mem_append.1 hx with hx|hx
  ·exact(head_ok k).2.2 x hx
  ·split at hx
   ·simp only[List.mem_cons,List.not_mem_nil,or_false]at hx
    rcases hx with rfl|rfl|rfl|rfl|rfl<;>omega
   ·simp only[List.mem_cons,List.not_mem_nil,or_false]at hx
    rcases hx with rfl|rfl|rfl|rfl|rfl<;>omega
 ·simp only[List.mem_cons,List.not_mem_nil,or_false]at hx
  rcases hx with rfl|rfl|rfl|rfl|rfl|rfl|rfl<;>omega
theorem bytes_any(k rm d:Int)(w:World)(k0:0≤k)(k1:k<256)(d0:0≤d)(d1:d<4294967296):
  Calls Tryz.prog 11 #[.int .u8 k,.int .u8 rm,.int .u32 d] w fun e w'=>∃v,e=.returned v∧OwnB w' w.heap.size v (bytesF k rm d)∧Below w.heap.size w w':=by
 have hh:=heads_at k
 have HO:=Lib.hid (head_ok k)
 have n1:bits .and .u8 (d/8%256) 63=d/8%64:=by rw[and63 _ (by omega) (by omega)];omega
 have n2:bits .and .u8 (d%256) 127=d%128:=by rw[and127 _ (by omega) (by omega)];omega
 go_enter Tryz.func11,Tryz.ntmps11
 go_wp2_with fail
 refine(heads_any _).mono ?_
 rintro e w' ⟨rfl,rfl⟩
 have HB0:=Lib.hid (show Below (w.heap.size+1) (w.alloc (.cells headsA 9)) (w.alloc (.cells headsA 9))from Below.refl _ _)
 have HC:=Lib.hid (fun(u:World) (hu:Below (w.heap.size+1) (w.alloc (.cells headsA 9)) u)=>(hu.cell (p:=⟨w.heap.size,(k%99).toNat,none⟩) (Nat.lt_succ_self _)).trans ((World.cell?_alloc_new _ _ _ _).trans hh))
 by_cases h4:d%4=0
 ·have hd:decide (0<d%4)=false:=by simp;omega
  have HF:=Lib.hid (show bytesF k rm d=headF k++[rm,d%256,d/256%256,d/65536%256,d/16777216]++[d/8%64,0,0,0,0,0,0]by unfold bytesF;rw[if_pos h4])
  clear h4
  go_wp2_with (first
   |(refine convert_ownB rfl (.tmp 17) rfl (w.heap.size+1) (headF k) rfl HO.out.2.2 (by have:=HO.out.2.1;omega) (by simp) ?_;intro v1 w1 ho hb hs;have HO1:=Lib.hid ho;have HB1:=Lib.hid (hb _ HB0.out);clear ho hb hs)
   |(at_builtin;refine append_ownB rfl (.tmp 18) (.tmp 31) rfl (w.heap.size+1) v1 (.slice (some ⟨w1.heap.size,0,none⟩) 5 5) (headF k) [rm,d%256,d/256%256,d/65536%256,d/16777216] rfl rfl (HO1.out.below (below_last (Below.refl _ _) _)) (slc_new w1 _ _ 5 5 _ (Nat.le_refl _) (by intro i hi;match i,hi with|0,_=>rfl|1,_=>rfl|2,_=>rfl|3,_=>rfl|4,_=>rfl)) (by simp) (by have:=HO.out.2.1;simp;omega) (by have:=HB1.out.size;simp at this ⊢;omega) ?_;intro v2 w2 ho _ hb hs;have HO2:=Lib.hid ho;have HB2:=Lib.hid (hb _ (HB1.out.alloc (by have:=HB1.out.size;simp at this ⊢;omega) _));clear ho hb hs)
   |(at_builtin;refine append_ownB rfl (.tmp 51) (.tmp 56) rfl (w.heap.size+1) v2 (.slice (some ⟨w2.heap.size,0,none⟩) 7 7) (headF k++[rm,d%256,d/256%256,d/65536%256,d/16777216]) [d/8%64,0,0,0,0,0,0] rfl rfl (HO2.out.below (below_last (Below.refl _ _) _)) (slc_new w2 _ _ 7 7 _ (Nat.le_refl _) (by intro i hi;match i,hi with|0,_=>rfl|1,_=>rfl|2,_=>rfl|3,_=>rfl|4,_=>rfl|5,_=>rfl|6,_=>rfl)) (by simp) (by have:=HO.out.2.1;simp;omega) (by have:=HB2.out.size;simp at this ⊢;omega) ?_;intro v3 w3 ho _ hb hs;have HO3:=Lib.hid ho;have HB3:=Lib.hid (hb _ (HB2.out.alloc (by have:=HB2.out.size;simp at this ⊢;omega) _));clear ho hb hs))
  go_ret
  exact⟨_,rfl,by rw[HF.out];exact HO3.out.mono (Nat.le_succ _),(below_last (Below.refl _ _) _).trans (HB3.out.mono (Nat.le_succ _))⟩
 ·have hd:decide (0<d%4)=true:=by simp;omega
  have HF:=Lib.hid (show bytesF k rm d=headF k++[rm,d%128,0,0,0]++[d/8%64,0,0,0,0,0,0]by unfold bytesF;rw[if_neg h4])
  clear h4
  go_wp2_with (first
   |(refine convert_ownB rfl (.tmp 17) rfl (w.heap.size+1) (headF k) rfl HO.out.2.2 (by have:=HO.out.2.1;omega) (by simp) ?_;intro v1 w1 ho hb hs;have HO1:=Lib.hid ho;have HB1:=Lib.hid (hb _ HB0.out);clear ho hb hs)
   |(at_builtin;refine append_ownB rfl (.tmp 18) (.tmp 31) rfl (w.heap.size+1) v1 (.slice (some ⟨w1.heap.size,0,none⟩) 5 5) (headF k) [rm,d%256,d/256%256,d/65536%256,d/16777216] rfl rfl (HO1.out.below (below_last (Below.refl _ _) _)) (slc_new w1 _ _ 5 5 _ (Nat.le_refl _) (by intro i hi;match i,hi with|0,_=>rfl|1,_=>rfl|2,_=>rfl|3,_=>rfl|4,_=>rfl)) (by simp) (by have:=HO.out.2.1;simp;omega) (by have:=HB1.out.size;simp at this ⊢;omega) ?_;intro v2 w2 ho _ hb hs;have HO2:=Lib.hid ho;have HB2:=Lib.hid (hb _ (HB1.out.alloc (by have:=HB1.out.size;simp at this ⊢;omega) _));have hc2:=HC.out _ HB2.out;clear ho hb hs)
   |(refine convert_ownB rfl (.tmp 43) rfl (w.heap.size+1) (headF k) rfl HO.out.2.2 (by have:=HO.out.2.1;omega) (by have:=HB2.out.size;simpa using this) ?_;intro v3 w3 ho hb hs;have HO3:=Lib.hid ho;have HB3:=Lib.hid (hb _ HB2.out);clear ho hb hs)
   |(at_builtin;refine append_ownB rfl (.tmp 44) (.tmp 49) rfl (w.heap.size+1) v3 (.slice (some ⟨w3.heap.size,0,none⟩) 5 5) (headF k) [rm,d%128,0,0,0] rfl rfl (HO3.out.below (below_last (Below.refl _ _) _)) (slc_new w3 _ _ 5 5 _ (Nat.le_refl _) (by intro i hi;match i,hi with|0,_=>rfl|1,_=>rfl|2,_=>rfl|3,_=>rfl|4,_=>rfl)) (by simp) (by have:=HO.out.2.1;simp;omega) (by have:=HB3.out.size;simp at this ⊢;omega) ?_;intro v4 w4 ho _ hb hs;have HO4:=Lib.hid ho;have HB4:=Lib.hid (hb _ (HB3.out.alloc (by have:=HB3.out.size;simp at this ⊢;omega) _));clear ho hb hs)
   |(at_builtin;refine append_ownB rfl (.tmp 51) (.tmp 56) rfl (w.heap.size+1) v4 (.slice (some ⟨w4.heap.size,0,none⟩) 7 7) (headF k++[rm,d%128,0,0,0]) [d/8%64,0,0,0,0,0,0] rfl rfl (HO4.out.below (below_last (Below.refl _ _) _)) (slc_new w4 _ _ 7 7 _ (Nat.le_refl _) (by intro i hi;match i,hi with|0,_=>rfl|1,_=>rfl|2,_=>rfl|3,_=>rfl|4,_=>rfl|5,_=>rfl|6,_=>rfl)) (by simp) (by have:=HO.out.2.1;simp;omega) (by have:=HB4.out.size;simp at this ⊢;omega) ?_;intro v5 w5 ho _ hb hs;have HO5:=Lib.hid ho;have HB5:=Lib.hid (hb _ (HB4.out.alloc (by have:=HB4.out.size;simp at this ⊢;omega) _));clear ho hb hs))
  go_ret
  exact⟨_,rfl,by rw[HF.out];exact HO5.out.mono (Nat.le_succ _),(below_last (Below.refl _ _) _).trans (HB5.out.mono (Nat.le_succ _))⟩
end
section
open Go.ChangeShapes Go.WideShapes Go.ChangeAt Go.RowKit
set_option maxRecDepth 100000
theorem get_regN(s:Sta)(i:Int):getG s (⟨1,i,0,0,0,0⟩:Opd)=regN s i:=by
 unfold getG getF regN
 by_cases h:0≤i∧i≤7
 ·rw[if_pos h,if_pos h,if_neg (show ¬(1:Int)=4 by decide),if_pos h,if_pos rfl]
 ·rw[if_neg h,if_neg h]
set_option maxHeartbeats 8000000
theorem register_any(s:Sta)(i:Int)(hs:StaOk s)(w:World):Calls Tryz.prog 84 #[staV s,.int .i64 i] w fun e w'=>e=.returned (.int .u32 (regN s i))∧Below w.heap.size w w':=by
 have hlo:=regN_lo hs i
 have H:=fun u=>get_any s (⟨1,i,0,0,0,0⟩:Opd) hs (Int.le_refl _) (by show(0:Int)<_;decide) u
 obtain⟨V,hV⟩:∃V,regN s i=V:=⟨_,rfl⟩
 rw[get_regN,hV,show opV (⟨1,i,0,0,0,0⟩:Opd)=.agg #[.int .i64 1,.int .i64 i,.int .i64 0,.int .i64 0,.int .i64 0,.int .u32 0]from rfl,show staV s=.agg (staL s).toArray from rfl]at H
 rw[hV]at hlo ⊢
 obtain⟨v0,v1⟩:=hlo
 have H:=Lib.hid H
 clear hs hV
 unfold staV
 go_enter Tryz.func84,Tryz.ntmps84
 go_upto_region 1 with fail
 obtain⟨W,hW⟩:∃W,W=w.alloc (.cells (staL s).toArray 29):=⟨_,rfl⟩
 rw[←hW]
 have hb:W.heap[w.heap.size]?=some (.cells (staL s).toArray 29 (0,0)):=by rw[hW];show(w.heap.push _)[w.heap.size]?=_;simp
 have HB:=Lib.hid (show Below w.heap.size w W by rw[hW];exact below_last (Below.refl _ _) _)
 have HR:=Lib.hid (range_in13 hb 0 (staL s) rfl)
 clear hb hW
 go_wp2_with (refine wpList_load_mid rfl 29 (.tmp 2) rfl w.heap.size 0 rfl (staL s) _ HR.out Tryz.underlying29 rfl info_sta ?_)
 ((with_reducible refine(H.out _).mono ?_);rintro e w1 ⟨rfl,b1⟩)
 have HB1:=Lib.hid (below_step HB.out b1)
 clear b1
 go_wp2_with fail
 go_ret
 exact⟨rfl,HB1.out⟩
theorem of_land(x y c d:Int):((x+y*(c%4294967296)%4294967296)%4294967296+d)%4294967296=(d+x+y*c)%4294967296:=by
 rw[mul_wrap]
 generalize y*c=z
 omega
theorem of_any(s:Sta)(o:Opd)(hs:StaOk s)(w:World):Calls Tryz.prog 61 #[staV s,opV o] w fun e w'=>e=.returned (.int .u32 (ofF s o))∧Below w.heap.size w w':=by
 obtain⟨k,r,b,i,c,d⟩:=o
 have H1:=fun u=>register_any s b hs u
 have H2:=fun u=>register_any s i hs u
 obtain⟨x,hx⟩:∃x,regN s b=x:=⟨_,rfl⟩
 obtain⟨y,hy⟩:∃y,regN s i=y:=⟨_,rfl⟩
 have hA:ofF s ⟨k,r,b,i,c,d⟩=((x+y*(c%4294967296)%4294967296)%4294967296+d)%4294967296:=by
  rw[of_land,←hx,←hy]
  rfl
 rw[hA]
 rw[hx,show staV s=.agg (staL s).toArray from rfl]at H1
 rw[hy,show staV s=.agg (staL s).toArray from rfl]at H2
 clear hx hy hA hs
 obtain⟨C,hC⟩:∃C,c%4294967296=C:=⟨_,rfl⟩
 have wC:=IntKind.wrap_u32' c
 rw[hC]at wC ⊢
 obtain⟨D,hD⟩:∃D,y*C%4294967296=D:=⟨_,rfl⟩
 have wD:=IntKind.wrap_u32' (y*C)
 rw[hD]at wD ⊢
 obtain⟨E,hE⟩:∃E,(x+D)%4294967296=E:=⟨_,rfl⟩
 have wE:=IntKind.wrap_u32' (x+D)
 rw[hE]at wE ⊢
 obtain⟨A,hA⟩:∃A,(E+d)%4294967296=A:=⟨_,rfl⟩
 have wA:=IntKind.wrap_u32' (E+d)
 rw[hA]at wA ⊢
 clear hC hD hE hA
 have H1:=Lib.hid H1
 have H2:=Lib.hid H2
 unfold staV opV
 go_enter Tryz.func61,Tryz.ntmps61
 go_upto_region 1 with fail
 obtain⟨W,hW⟩:∃W,W=(w.alloc (.cells (staL s).toArray 29)).alloc (.cells #[.int .i64 k,.int .i64 r,.int .i64 b,.int .i64 i,.int .i64 c,.int .u32 d] 32):=⟨_,rfl⟩
 rw[←hW]
 have hbel:=(heap_two hW).2.2
 have HB:=Lib.hid hbel
 have HRW:=fun u hu=>rng_two (o:=⟨k,r,b,i,c,d⟩) hW (u:=u) hu
 have HRS:=Lib.hid (show ∀u,Below W.heap.size W u→u.rangeAt w.heap.size 0 (staL s)from fun u hu=>(HRW u hu).1)
 have HRO:=Lib.hid (show ∀u,Below W.heap.size W u→∀(j:Nat) (v:Value),(opL' ⟨k,r,b,i,c,d⟩)[j]?=some v→u.cell? ⟨w.heap.size+1,j,none⟩=some v from fun u hu j v hj=>by have h:=(HRW u hu).2 j v hj;rwa[Nat.zero_add]at h)
 clear HRW hW hbel
 have hne:=class_const (C:=fun u=>Below W.heap.size W u) (Below.refl W.heap.size W)
 refine wp_region_quietC (fun u=>Below W.heap.size W u) (by kernel_rfl) (by kernel_rfl) ((Below.refl _ _).drew) ?_
 go_big_quiet_want;refine quietC_load 29 (.tmp 2) w.heap.size 0 rfl (staL s) _ HRS.out Tryz.underlying29 rfl info_sta ?_;go_big_quiet_op;go_big_quiet_on
 go_big_quiet_want;go_big_quiet_op;go_big_quiet_on
 go_big_quiet_want;refine quietC_read 3 (.tmp 6) (.int .i64 b) (fun u hu=>by have:=HRO.out u hu 2 _ rfl;simp[Act.eval,go_sem,this]) ?_;go_big_quiet_op;go_big_quiet_on
 go_big_quiet_want;refine quietC_call 84 #[.tmp 5,.tmp 7] _ #[.agg (staL s).toArray,.int .i64 b] (.int .u32 x) (fun u _=>by simp[Act.eval,go_sem]) (fun u hu=>(H1.out u).mono fun _ _ ⟨h1,h2⟩=>⟨h1,below_step hu h2⟩) ?_;go_big_quiet_op;go_big_quiet_on
 go_big_quiet_want;refine quietC_load 29 (.tmp 2) w.heap.size 0 rfl (staL s) _ HRS.out Tryz.underlying29 rfl info_sta ?_;go_big_quiet_op;go_big_quiet_on
 go_big_quiet_want;go_big_quiet_op;go_big_quiet_on
 go_big_quiet_want;refine quietC_read 3 (.tmp 10) (.int .i64 i) (fun u hu=>by have:=HRO.out u hu 3 _ rfl;simp[Act.eval,go_sem,this]) ?_;go_big_quiet_op;go_big_quiet_on
 go_big_quiet_want;refine quietC_call 84 #[.tmp 9,.tmp 11] _ #[.agg (staL s).toArray,.int .i64 i] (.int .u32 y) (fun u _=>by simp[Act.eval,go_sem]) (fun u hu=>(H2.out u).mono fun _ _ ⟨h1,h2⟩=>⟨h1,below_step hu h2⟩) ?_;go_big_quiet_op;go_big_quiet_on
 go_big_quiet_want;go_big_quiet_op;go_big_quiet_on
 go_big_quiet_want;refine quietC_read 3 (.tmp 13) (.int .i64 c) (fun u hu=>by have:=HRO.out u hu 4 _ rfl;simp[Act.eval,go_sem,this]) ?_;go_big_quiet_op;go_big_quiet_on
 go_big_quiet_want;refine quietC_val _ (.int .u32 C) (fun u _=>by simp[execOp,Act.eval,go_sem,wC]) ?_;go_big_quiet_op;go_big_quiet_on
 go_big_quiet_want;refine quietC_val _ (.int .u32 D) (fun u _=>by simp[execOp,Act.eval,go_sem,wD]) ?_;go_big_quiet_op;go_big_quiet_on
 go_big_quiet_want;refine quietC_val _ (.int .u32 E) (fun u _=>by simp[execOp,Act.eval,go_sem,wE]) ?_;go_big_quiet_op;go_big_quiet_on
 go_big_quiet_want;go_big_quiet_op;go_big_quiet_on
 go_big_quiet_want;refine quietC_read 22 (.tmp 18) (.int .u32 d) (fun u hu=>by have:=HRO.out u hu 5 _ rfl;simp[Act.eval,go_sem,this]) ?_;go_big_quiet_op;go_big_quiet_on
 go_big_quiet_want;refine quietC_val _ (.int .u32 A) (fun u _=>by simp[execOp,Act.eval,go_sem,wA]) ?_;go_big_quiet_op;go_big_quiet_on
 go_big_quiet_want;go_big_quiet_op;go_big_quiet_on
 refine wpQuiet_nil ?_
 intro w5 hw5
 have HW5:=Lib.hid (below_step HB.out hw5)
 clear hw5
 go_wp2_with fail
 go_ret
 exact⟨rfl,HW5.out⟩
end
section
open Go.ChangeShapes Go.WideShapes Go.ChangeAt Go.RowKit
set_option maxRecDepth 100000
def aldV(g:Int→Int)(d:Sg)(s:Sta)(o:Opd)(size:Int):Int:=if o.kind=3 then ldV g d (ofF s o) size else getG s o
def aldE(d:Sg)(s:Sta)(o:Opd)(size:Int):Int:=if o.kind=3 then ldE d (ofF s o) size else 0
def astS(s:Sta)(o:Opd)(v:Int):Sta:=if o.kind=3 then s else setF s o v
def astE(d:Sg)(s:Sta)(o:Opd)(size:Int):Int:=if o.kind=3 then stE d (ofF s o) size else 0
def astG(g:Int→Int)(d:Sg)(s:Sta)(o:Opd)(size v:Int):Int→Int:=if o.kind=3 then stG g d (ofF s o) size v else g
set_option maxHeartbeats 8000000
theorem aload_any(b0:Nat)(F:Nat→Prop)(g:Int→Int)(pg:Int→Bool)(cc dd:Sg)(s:Sta)(o:Opd)(size:Int)(hs:StaOk s)(d0:0≤o.disp)(d1:o.disp<4294967296)(w:World)(hR:PBus w b0 F g pg cc dd):
  Calls Tryz.prog 122 #[.pointer (some ⟨b0,0,none⟩),staV s,opV o,.int .i64 size] w fun e w'=>e=.returned (.tuple #[.int .u64 (aldV g dd s o size),.int .i64 (aldE dd s o size)])∧Below w.heap.size w w':=by
 have HR:=Lib.hid hR
 have HOF:=Lib.hid (fun u=>of_any s o hs u)
 have HGE:=Lib.hid (fun u=>get_any s o hs d0 d1 u)
 have hlo:=ofF_lo s o
 have hhi:=ofF_hi s o
 obtain⟨A,hA⟩:∃A,ofF s o=A:=⟨_,rfl⟩
 have HV:=Lib.hid (show aldV g dd s o size=if o.kind=3 then ldV g dd A size else getG s o by rw[←hA];rfl)
 have HO:=Lib.hid (show aldE dd s o size=if o.kind=3 then ldE dd A size else 0 by rw[←hA];rfl)
 rw[hA]at HOF hlo hhi
 obtain⟨G,hG⟩:∃G,getG s o=G:=⟨_,rfl⟩
 rw[hG]at HGE HV
 obtain⟨k,r,b,i,c,d⟩:=o
 dsimp only at d0 d1 HV HO
 rw[show staV s=.agg (staL s).toArray from rfl,show opV (⟨k,r,b,i,c,d⟩:Opd)=.agg (opL' ⟨k,r,b,i,c,d⟩).toArray from rfl]at HOF HGE
 clear hs hA hG hR
 unfold staV opV
 go_enter Tryz.func122,Tryz.ntmps122
 go_upto_region 1 with fail
 obtain⟨W,hW⟩:∃W,W=(w.alloc (.cells (staL s).toArray 29)).alloc (.cells #[.int .i64 k,.int .i64 r,.int .i64 b,.int .i64 i,.int .i64 c,.int .u32 d] 32):=⟨_,rfl⟩
 rw[←hW]
 obtain⟨hS,hO,hbel⟩:=heap_two hW
 have HBEL:=Lib.hid hbel
 have HRW:=Lib.hid (fun u hu=>rng_two (o:=⟨k,r,b,i,c,d⟩) hW (u:=u) hu)
 have k0:W.cell? ⟨w.heap.size+1,0,none⟩=some (.int .i64 k):=(cell_block hO 0).1
 have HR:=Lib.hid (HR.out.but (G:=fun _=>False) (But.of_below hbel) (fun _ _ h=>h))
 clear hW hS hO hbel
 by_cases hk:k=3
 ·subst hk
  have HV:=Lib.hid (show aldV g dd s ⟨3,r,b,i,c,d⟩ size=ldV g dd A size from HV.out.trans (if_pos rfl))
  have HO:=Lib.hid (show aldE dd s ⟨3,r,b,i,c,d⟩ size=ldE dd A size from HO.out.trans (if_pos rfl))
  go_wp2_with (first
   |(refine wpList_load_mid rfl 29 (.tmp 5) rfl w.heap.size 0 rfl (staL s) _ (HRW.out _ (Below.refl _ _)).1 Tryz.underlying29 rfl info_sta ?_)
   |(refine wpList_load_mid rfl 32 (.tmp 6) rfl (w.heap.size+1) 0 rfl (opL' ⟨3,r,b,i,c,d⟩) _ (HRW.out _ (Below.refl _ _)).2 Tryz.underlying32 rfl info_opd1 ?_))
  ((with_reducible refine(HOF.out _).mono ?_);rintro e w1 ⟨rfl,b1⟩)
  have HB1:=Lib.hid b1
  have HR:=Lib.hid (HR.out.but (G:=fun _=>False) (But.of_below b1) (fun _ _ h=>h))
  clear b1
  go_wp2_with fail
  ((with_reducible refine(bload_any b0 F g pg cc dd A size hlo hhi _ HR.out).mono ?_);rintro e w2 ⟨rfl,b2⟩)
  have HB2:=Lib.hid b2
  clear b2
  obtain⟨E,hE⟩:∃E,ldE dd A size=E:=⟨_,rfl⟩
  obtain⟨X,hX⟩:∃X,ldV g dd A size=X:=⟨_,rfl⟩
  have HV:=Lib.hid (HV.out.trans hX)
  have HO:=Lib.hid (HO.out.trans hE)
  rw[hE,hX]
  clear hE hX
  go_wp2_with fail
  go_ret2
  exact⟨by rw[HV.out,HO.out];rfl,HBEL.out.trans ((HB1.out.trans (HB2.out.mono HB1.out.size)).mono HBEL.out.size)⟩
 ·have ek:(k != 3)=true:=by simpa using hk
  have ek':(k==3)=false:=by simpa using hk
  have HV:=Lib.hid (show aldV g dd s ⟨k,r,b,i,c,d⟩ size=G from HV.out.trans (if_neg hk))
  have HO:=Lib.hid (show aldE dd s ⟨k,r,b,i,c,d⟩ size=0 from HO.out.trans (if_neg hk))
  clear hk
  go_wp2_with (first
   |(refine wpList_load_mid rfl 29 (.tmp 5) rfl w.heap.size 0 rfl (staL s) _ (HRW.out _ (Below.refl _ _)).1 Tryz.underlying29 rfl info_sta ?_)
   |(refine wpList_load_mid rfl 32 (.tmp 6) rfl (w.heap.size+1) 0 rfl (opL' ⟨k,r,b,i,c,d⟩) _ (HRW.out _ (Below.refl _ _)).2 Tryz.underlying32 rfl info_opd1 ?_))
  ((with_reducible refine(HGE.out _).mono ?_);rintro e w1 ⟨rfl,b1⟩)
  have HB1:=Lib.hid b1
  clear b1
  go_wp2_with fail
  go_ret2
  exact⟨by rw[HV.out,HO.out];rfl,HBEL.out.trans (HB1.out.mono HBEL.out.size)⟩
end
section
open Go.ChangeShapes Go.WideShapes Go.ChangeAt Go.RowKit
set_option maxRecDepth 100000
theorem writeP_or(pg:Int→Bool)(a:Int)(n:Nat)(q:Int):writeP pg a n q=(writeP (fun _=>false) a n q || pg q):=by
 induction n with
 |zero=>rfl
 |succ n ih=>
  show(q==place a n/4096*4096 || writeP pg a n q)=((q==place a n/4096*4096 || writeP (fun _=>false) a n q) || pg q)
  rw[ih,Bool.or_assoc]
theorem writeP_twice(pg:Int→Bool)(a:Int)(n:Nat):writeP (writeP pg a n) a n=writeP pg a n:=by
 funext q
 rw[writeP_or (writeP pg a n),writeP_or pg]
 cases writeP (fun _=>false) a n q<;>rfl
theorem stP_twice(pg:Int→Bool)(d:Sg)(off size:Int):stP (stP pg d off size) d off size=stP pg d off size:=by
 unfold stP
 by_cases h:stE d off size=0
 ·rw[if_pos h,if_pos h]
  exact writeP_twice pg _ _
 ·rw[if_neg h,if_neg h]
theorem heap_3{w W:World}{o p q:Obj}(h:W=((w.alloc o).alloc p).alloc q):W.heap[w.heap.size]?=some o∧W.heap[w.heap.size+1]?=some p∧W.heap[w.heap.size+2]?=some q∧Below w.heap.size w W:=heap_three h
theorem setL_sizeA:∀(vs:List Value) (C:Array Value) (o:Nat),(setL C o vs).size=C.size
 |[],_,_=>rfl
 |v :: vs,C,o=>by unfold setL;rw[setL_sizeA vs];simp
theorem setL_appA:∀(vs pre rest:List Value),vs.length≤rest.length→setL (pre++rest).toArray pre.length vs=(pre++vs++rest.drop vs.length).toArray
 |[],pre,rest,_=>by simp[setL]
 |v :: vs,pre,[],h=>by simp at h
 |v :: vs,pre,x :: rest,h=>by
  unfold setL
  have e:(pre++x :: rest).toArray.setIfInBounds pre.length v=(pre++[v]++rest).toArray:=by simp
  rw[e,show pre.length+1=(pre++[v]).length by simp,setL_appA vs (pre++[v]) rest (by simpa using h)]
  simp
theorem setL_wholeA(s:Sta){C:Array Value}(hz:C.size=23):setL C 0 (staL s).toArray.toList=(staL s).toArray:=by
 obtain⟨l⟩:=C
 have hl:l.length=23:=hz
 have h:=setL_appA (staL s) [] l (by rw[hl];exact Nat.le_refl 23)
 rw[List.nil_append,List.nil_append,show l.drop (staL s).length=[]from List.drop_eq_nil_of_le (by rw[hl];exact Nat.le_refl 23),List.append_nil]at h
 exact h
def HasB(w u:World)(b:Nat)(F:Nat→Prop)(g:Int→Int)(pg:Int→Bool)(cc dd:Sg):Prop:=∃F',PBus u b F' g pg cc dd∧∀k,F' k→F k∨w.heap.size+3≤k
variable {w u u':World} {b0:Nat} {F:Nat→Prop} {g g':Int→Int} {pg pg':Int→Bool} {cc dd:Sg} {s:Sta} {o:Opd}
theorem HasB.below(h:HasB w u b0 F g pg cc dd)(hb:Below u.heap.size u u'):HasB w u' b0 F g pg cc dd:=
 let ⟨F',h1,h2⟩:=h;⟨F',h1.but (G:=fun _=>False) (But.of_below hb) (fun _ _ h=>h),h2⟩
theorem HasB.but{G:Nat→Prop}(h:HasB w u b0 F g pg cc dd)(hb:But G u u')(hn:∀k,F k∨w.heap.size+3≤k→¬G k):HasB w u' b0 F g pg cc dd:=
 let ⟨F',h1,h2⟩:=h;⟨F',h1.but hb (fun k hk=>hn k (h2 k hk)),h2⟩
structure SInv (w:World) (b0:Nat) (F:Nat→Prop) (g g':Int→Int) (pg pg':Int→Bool) (cc dd:Sg) (s:Sta) (o:Opd) (u:World):Prop where
 rs:u.heap[w.heap.size]?=some (.cells (staL s).toArray 29 (0,0))
 ro:u.heap[w.heap.size+1]?=some (.cells (opL' o).toArray 32 (0,0))
 res:∃C,u.heap[w.heap.size+2]?=some (.cells C 29 (0,0))∧C.size=23
 bus:HasB w u b0 F g pg cc dd∨HasB w u b0 F g' pg' cc dd
 own:∀k,F k→k<w.heap.size
 but:But F w u
theorem SInv.size(h:SInv w b0 F g g' pg pg' cc dd s o u):w.heap.size+3≤u.heap.size:=by
 obtain⟨C,hC,_⟩:=h.res
 exact(Array.getElem?_eq_some_iff.1 hC).1
theorem SInv.below(h:SInv w b0 F g g' pg pg' cc dd s o u)(hb:Below u.heap.size u u'):SInv w b0 F g g' pg pg' cc dd s o u':=by
 have k:∀{j:Nat} {x:Obj},u.heap[j]?=some x→u'.heap[j]?=some x:=fun{j x} hj=>(hb.block j (Array.getElem?_eq_some_iff.1 hj).1).trans hj
 obtain⟨C,hC,hz⟩:=h.res
 exact⟨k h.rs,k h.ro,⟨C,k hC,hz⟩,h.bus.imp (·.below hb) (·.below hb),h.own,h.but.trans (But.of_below (F:=F) hb) (fun _ _ h=>h)⟩
theorem SInv.wrote{H:Nat→Prop}(h:SInv w b0 F g g' pg pg' cc dd s o u)(hH:∀k,H k→F k∨w.heap.size+3≤k)(hr:HasB w u' b0 F g' pg' cc dd)(hb:But H u u'):SInv w b0 F g g' pg pg' cc dd s o u':=by
 have k:∀{j:Nat} {x:Obj},w.heap.size≤j→j<w.heap.size+3→u.heap[j]?=some x→u'.heap[j]?=some x:=fun{j x} hl hm hj=>(hb.block j (Array.getElem?_eq_some_iff.1 hj).1 (fun hR=>(hH j hR).elim (fun q=>by have:=h.own j q;omega) (fun q=>by omega))).trans hj
 obtain⟨C,hC,hz⟩:=h.res
 exact⟨k (by omega) (by omega) h.rs,k (by omega) (by omega) h.ro,⟨C,k (by omega) (by omega) hC,hz⟩,.inr hr,h.own,h.but.trans hb (fun j hj q=>(hH j q).elim id (fun q=>by omega))⟩
theorem SInv.stored{Y:World}{cs:List Value}(h:SInv w b0 F g g' pg pg' cc dd s o u)(hY:Y=u.setCells (w.heap.size+2) 0 cs):SInv w b0 F g g' pg pg' cc dd s o Y∧But (·=w.heap.size+2) u Y:=by
 have hbt:But (·=w.heap.size+2) u Y:=by rw[hY];exact(But.refl (·=w.heap.size+2) u).cells (fun _=>rfl) _ _
 have k:∀{j:Nat} {x:Obj},j≠w.heap.size+2→u.heap[j]?=some x→Y.heap[j]?=some x:=fun{j x} hl hj=>(hbt.block j (Array.getElem?_eq_some_iff.1 hj).1 hl).trans hj
 obtain⟨C,hC,hz⟩:=h.res
 have hn:∀k,F k∨w.heap.size+3≤k→¬k=w.heap.size+2:=fun k hk e=>hk.elim (fun q=>by have:=h.own k q;omega) (fun q=>by omega)
 refine⟨⟨k (by omega) h.rs,k (by omega) h.ro,?_,h.bus.imp (·.but hbt hn) (·.but hbt hn),h.own,?_⟩,hbt⟩
 ·rw[hY]
  exact⟨_,block_setCells cs 0 u C hC,by rw[setL_sizeA];exact hz⟩
 ·refine⟨hbt.os.trans h.but.os,hbt.tape.trans h.but.tape,hbt.output.trans h.but.output,Nat.le_trans h.but.size hbt.size,fun j hj hR=>(hbt.block j (Nat.lt_of_lt_of_le hj h.but.size) (by omega)).trans (h.but.block j hj hR)⟩
def SVA(w:World)(b0:Nat)(F:Nat→Prop)(g':Int→Int)(pg':Int→Bool)(cc dd:Sg)(s:Sta)(o:Opd)(size v A E:Int):Nat→Value→World→Prop
 |0,x,_=>x=.agg (staL s).toArray
 |1,x,_=>x=.pointer (some ⟨b0,0,none⟩)
 |2,x,_=>x=.agg (staL s).toArray
 |3,x,_=>x=.agg (opL' o).toArray
 |4,x,_=>x=.int .u32 A
 |5,x,_=>x=.int .i64 size
 |6,x,_=>x=.int .u64 v
 |7,x,u=>x=.int .i64 E∧HasB w u b0 F g' pg' cc dd
 |8,_,u=>u.heap[w.heap.size+2]?=some (.cells (staL s).toArray 29 (0,0))
 |_,_,_=>True
def SGA(w:World)(b0:Nat)(F:Nat→Prop)(g':Int→Int)(pg':Int→Bool)(cc dd:Sg)(s:Sta)(u u':World):Prop:=
 (u.heap[w.heap.size+2]?=some (.cells (staL s).toArray 29 (0,0))→u'.heap[w.heap.size+2]?=some (.cells (staL s).toArray 29 (0,0)))∧(HasB w u b0 F g' pg' cc dd→HasB w u' b0 F g' pg' cc dd)
theorem SGA.refl(w:World)(b0:Nat)(F:Nat→Prop)(g':Int→Int)(pg':Int→Bool)(cc dd:Sg)(s:Sta)(u:World):SGA w b0 F g' pg' cc dd s u u:=⟨id,id⟩
theorem SGA.below(hb:Below u.heap.size u u'):SGA w b0 F g' pg' cc dd s u u':=⟨fun h=>(hb.block _ (Array.getElem?_eq_some_iff.1 h).1).trans h,fun h=>h.below hb⟩
theorem sva_stays{size v A E:Int}(i:Nat)(x:Value)(u u':World)(h:SVA w b0 F g' pg' cc dd s o size v A E i x u)(hg:SGA w b0 F g' pg' cc dd s u u'):SVA w b0 F g' pg' cc dd s o size v A E i x u':=by
 unfold SVA at h ⊢
 split at h
 all_goals first
  |exact h
  |exact⟨h.1,hg.2 h.2⟩
  |exact hg.1 h
set_option maxHeartbeats 8000000
theorem astore_any(b0:Nat)(F:Nat→Prop)(g:Int→Int)(pg:Int→Bool)(cc dd:Sg)(s:Sta)(o:Opd)(size v:Int)(hs:StaOk s)(d0:0≤o.disp)(d1:o.disp<4294967296)(v0:0≤v)(v1:v<18446744073709551616)(w:World)(hR:PBus w b0 F g pg cc dd):
  Calls Tryz.prog 121 #[.pointer (some ⟨b0,0,none⟩),staV s,opV o,.int .i64 size,.int .u64 v] w fun e w'=>∃F' pg',e=.returned (.tuple #[staV (astS s o v),.int .i64 (astE dd s o size)])∧(∀k,F' k→F k∨w.heap.size≤k)∧PBus w' b0 F' (astG g dd s o size v) pg' cc dd∧But F w w':=by
 have HR:=Lib.hid hR
 have HOF:=Lib.hid (fun u=>of_any s o hs u)
 have HSE:=Lib.hid (fun u=>set_any s o v hs v0 v1 u)
 have hlo:=ofF_lo s o
 have hhi:=ofF_hi s o
 obtain⟨A,hA⟩:∃A,ofF s o=A:=⟨_,rfl⟩
 have HPO:=Lib.hid (show astE dd s o size=if o.kind=3 then stE dd A size else 0 by rw[←hA];rfl)
 have HPG:=Lib.hid (show astG g dd s o size v=if o.kind=3 then stG g dd A size v else g by rw[←hA];rfl)
 have HPS:=Lib.hid (show astS s o v=if o.kind=3 then s else setF s o v from rfl)
 rw[hA]at HOF hlo hhi
 obtain⟨T,hT⟩:∃T,setF s o v=T:=⟨_,rfl⟩
 rw[hT]at HSE HPS
 obtain⟨k,r,b,i,c,d⟩:=o
 dsimp only at d0 d1 HPO HPG HPS
 rw[show staV s=.agg (staL s).toArray from rfl,show opV (⟨k,r,b,i,c,d⟩:Opd)=.agg (opL' ⟨k,r,b,i,c,d⟩).toArray from rfl]at HOF
 rw[show staV s=.agg (staL s).toArray from rfl,show opV (⟨k,r,b,i,c,d⟩:Opd)=.agg (opL' ⟨k,r,b,i,c,d⟩).toArray from rfl,show staV T=.agg (staL T).toArray from rfl]at HSE
 clear hs hA hT hR
 unfold staV opV
 go_enter Tryz.func121,Tryz.ntmps121
 go_upto_region 1 with fail
 obtain⟨W,hW⟩:∃W,W=((w.alloc (.cells (staL s).toArray 29)).alloc (.cells #[.int .i64 k,.int .i64 r,.int .i64 b,.int .i64 i,.int .i64 c,.int .u32 d] 32)).alloc (.cells #[.int .u32 0,.int .u32 0,.int .u32 0,.int .u32 0,.int .u32 0,.int .u32 0,.int .u32 0,.int .u32 0,.int .u32 0,.bool false,.bool false,.bool false,.bool false,.bool false,.bool false,.int .u64 0,.int .u64 0,.int .u64 0,.int .u64 0,.int .u64 0,.int .u64 0,.int .u64 0,.int .u64 0] 29):=⟨_,rfl⟩
 rw[←hW]
 obtain⟨h1,h2,h3,hbel⟩:=heap_3 hW
 have k0:W.cell? ⟨w.heap.size+1,0,none⟩=some (.int .i64 k):=(cell_block h2 0).1
 have HP:=Lib.hid (fun g' pg'=>(show SInv w b0 F g g' pg pg' cc dd s ⟨k,r,b,i,c,d⟩ W from⟨h1,h2,⟨_,h3,rfl⟩,.inl ⟨F,HR.out.but (G:=fun _=>False) (But.of_below hbel) (fun _ _ h=>h),fun _ h=>.inl h⟩,fun j hj=>HR.out.lt j hj,But.of_below hbel⟩))
 have HBEL:=Lib.hid hbel
 clear hW h1 h2 h3 hbel
 by_cases hk:k=3
 ·subst hk
  have HPO1:=Lib.hid (HPO.out.trans (if_pos rfl))
  have HPG1:=Lib.hid (HPG.out.trans (if_pos rfl))
  have HPS1:=Lib.hid (HPS.out.trans (if_pos rfl))
  clear HPO HPG HPS
  obtain⟨g',hg'⟩:∃g',stG g dd A size v=g':=⟨_,rfl⟩
  obtain⟨pg',hpg'⟩:∃pg',stP pg dd A size=pg':=⟨_,rfl⟩
  have HTW:=Lib.hid (show stG g' dd A size v=g' by rw[←hg'];exact stG_twice g dd A size v)
  have HTP:=Lib.hid (show stP pg' dd A size=pg' by rw[←hpg'];exact stP_twice pg dd A size)
  have HG':=Lib.hid hg'
  have HGP:=Lib.hid hpg'
  rw[hg']at HPG1
  obtain⟨E,hE⟩:∃E,stE dd A size=E:=⟨_,rfl⟩
  rw[hE]at HPO1
  have HE:=Lib.hid hE
  clear hE hg' hpg'
  go_wp2_with fail
  refine wp_region_valsT (by kernel_rfl) 9 _ rfl rfl (by kernel_rfl) (fun n=>n==8) (by kernel_rfl) (SInv w b0 F g g' pg pg' cc dd s ⟨3,r,b,i,c,d⟩) (SGA w b0 F g' pg' cc dd s) (SVA w b0 F g' pg' cc dd s ⟨3,r,b,i,c,d⟩ size v A E) sva_stays (SGA.refl _ _ _ _ _ _ _ _) ((HP.out g' pg').below ((Below.refl _ _).drew)) ?_ ?_
  ·intro n op f u hn ho hinv hsz hbase hdep
   have b0':f.tmps.getD 0 undef=.pointer (some ⟨b0,0,none⟩):=hbase 0 (by kernel_rfl)
   have b3:f.tmps.getD 3 undef=.int .i64 size:=hbase 3 (by kernel_rfl)
   have b4:f.tmps.getD 4 undef=.int .u64 v:=hbase 4 (by kernel_rfl)
   have b6:f.tmps.getD 6 undef=.pointer (some ⟨w.heap.size,0,none⟩):=hbase 6 (by kernel_rfl)
   have b7:f.tmps.getD 7 undef=.pointer (some ⟨w.heap.size+1,0,none⟩):=hbase 7 (by kernel_rfl)
   have b10:f.tmps.getD 10 undef=.pointer (some ⟨w.heap.size+2,0,none⟩):=hbase 10 (by kernel_rfl)
   clear hbase hsz
   rcases(show n=0∨n=1∨n=2∨n=3∨n=4∨n=5∨n=6∨n=7∨n=8 by omega)with rfl|rfl|rfl|rfl|rfl|rfl|rfl|rfl|rfl
   ·cases ho
    have hl:=load_range (P:=Tryz.prog) (cs:=staL s) 29 _ Tryz.underlying29 rfl info_sta (range_in13 hinv.rs 0 _ rfl)
    exact wp_val (by simp[execOp,Act.eval,b6,Instr.loadAt,Instr.sureAddr,hl]<;>rfl) ⟨_,rfl,hinv,SGA.refl _ _ _ _ _ _ _ _ _,rfl⟩
   ·cases ho
    exact wp_val (by simp[execOp,Act.eval,b0',go_sem]<;>rfl) ⟨_,rfl,hinv,SGA.refl _ _ _ _ _ _ _ _ _,rfl⟩
   ·cases ho
    have hl:=load_range (P:=Tryz.prog) (cs:=staL s) 29 _ Tryz.underlying29 rfl info_sta (range_in13 hinv.rs 0 _ rfl)
    exact wp_val (by simp[execOp,Act.eval,b6,Instr.loadAt,Instr.sureAddr,hl]<;>rfl) ⟨_,rfl,hinv,SGA.refl _ _ _ _ _ _ _ _ _,rfl⟩
   ·cases ho
    have hl:=load_range (P:=Tryz.prog) (cs:=opL' ⟨3,r,b,i,c,d⟩) 32 _ Tryz.underlying32 rfl info_opd1 (range_in13 hinv.ro 0 _ rfl)
    exact wp_val (by simp[execOp,Act.eval,b7,Instr.loadAt,Instr.sureAddr,hl]<;>rfl) ⟨_,rfl,hinv,SGA.refl _ _ _ _ _ _ _ _ _,rfl⟩
   ·cases ho
    have e2:f.tmps.getD 22 undef=.agg (staL s).toArray:=hdep 2 (by kernel_rfl)
    have e3:f.tmps.getD 23 undef=.agg (opL' ⟨3,r,b,i,c,d⟩).toArray:=hdep 3 (by kernel_rfl)
    refine wp_call (by simp[execOp,Act.eval,e2,e3,go_sem]<;>rfl) ((HOF.out u).mono ?_)
    rintro e u' ⟨rfl,hb⟩
    exact⟨_,rfl,_,rfl,hinv.below hb,SGA.below hb,rfl⟩
   ·cases ho
    exact wp_val (by simp[execOp,Act.eval,b3,go_sem]<;>rfl) ⟨_,rfl,hinv,SGA.refl _ _ _ _ _ _ _ _ _,rfl⟩
   ·cases ho
    exact wp_val (by simp[execOp,Act.eval,b4,go_sem]<;>rfl) ⟨_,rfl,hinv,SGA.refl _ _ _ _ _ _ _ _ _,rfl⟩
   ·cases ho
    have e1:f.tmps.getD 21 undef=.pointer (some ⟨b0,0,none⟩):=hdep 1 (by kernel_rfl)
    have e4:f.tmps.getD 24 undef=.int .u32 A:=hdep 4 (by kernel_rfl)
    have e5:f.tmps.getD 25 undef=.int .i64 size:=hdep 5 (by kernel_rfl)
    have e6:f.tmps.getD 26 undef=.int .u64 v:=hdep 6 (by kernel_rfl)
    have hst:Calls Tryz.prog 142 #[.pointer (some ⟨b0,0,none⟩),.int .u32 A,.int .i64 size,.int .u64 v] u fun e u'=>∃H,e=.returned (.int .i64 E)∧(∀k,H k→F k∨w.heap.size+3≤k)∧HasB w u' b0 F g' pg' cc dd∧But H u u':=by
     have hz:=hinv.size
     rcases hinv.bus with hb|hb
     ·obtain⟨H,hp,hH⟩:=hb
      have h:=bstore_any b0 H g pg cc dd A size v hlo hhi v0 v1 u hp
      rw[HE.out,HG'.out,HGP.out]at h
      exact h.mono fun e u' ⟨F',he,hF,hq,hbt⟩=>⟨H,he,hH,⟨F',hq,fun k hk=>(hF k hk).elim (hH k) (fun q=>.inr (by omega))⟩,hbt⟩
     ·obtain⟨H,hp,hH⟩:=hb
      have h:=bstore_any b0 H g' pg' cc dd A size v hlo hhi v0 v1 u hp
      rw[HE.out,HTW.out,HTP.out]at h
      exact h.mono fun e u' ⟨F',he,hF,hq,hbt⟩=>⟨H,he,hH,⟨F',hq,fun k hk=>(hF k hk).elim (hH k) (fun q=>.inr (by omega))⟩,hbt⟩
    refine wp_call (by simp[execOp,Act.eval,e1,e4,e5,e6,go_sem]<;>rfl) (hst.mono ?_)
    rintro e u' ⟨H,rfl,hH,hr,hb⟩
    exact⟨_,rfl,_,rfl,hinv.wrote hH hr hb,⟨fun h=>(hb.block _ (Array.getElem?_eq_some_iff.1 h).1 (fun hR=>(hH _ hR).elim (fun q=>by have:=hinv.own _ q;omega) (fun q=>by omega))).trans h,fun _=>hr⟩,rfl,hr⟩
   ·cases ho
    have e0:f.tmps.getD 20 undef=.agg (staL s).toArray:=hdep 0 (by kernel_rfl)
    obtain⟨C,hC,hz⟩:=hinv.res
    refine wp_store_mid 29 (.tmp 10) (.tmp 20) rfl (w.heap.size+2) 0 (staL s).toArray b10 e0 (there_block hC 0 23 (by omega)) info_sta (sta_one s) ?_
    obtain⟨hi,hbt⟩:=hinv.stored (cs:=(staL s).toArray.toList) rfl
    refine⟨undef,rfl,hi,⟨fun _=>?_,fun h=>h.but hbt (fun j hj e=>hj.elim (fun q=>by have:=hinv.own j q;omega) (fun q=>by omega))⟩,?_⟩
    all_goals
     have h:=block_setCells (T:=29) (staL s).toArray.toList 0 u C hC
     rw[setL_wholeA s hz]at h
     exact h
  ·intro f u hinv hV
   obtain⟨q7,hbus⟩:=hV 7 (by decide)
   have q7:f 7=.int .i64 E:=q7
   have hres:=hV 8 (by decide)
   generalize hc:laid _ f _ _=fr
   have b27:fr.tmps.getD 27 undef=.int .i64 E:=by rw[←hc,←q7];kernel_rfl
   have b10:fr.tmps.getD 10 undef=.pointer (some ⟨w.heap.size+2,0,none⟩):=by rw[←hc];kernel_rfl
   have bs:fr.tmps.size=28:=by rw[←hc];kernel_rfl
   have bd:fr.defers=[]:=by rw[←hc];kernel_rfl
   have HB:=Lib.hid hbus
   have HBT:=Lib.hid hinv.but
   have hl:=load_range (P:=Tryz.prog) (cs:=staL s) 29 _ Tryz.underlying29 rfl info_sta (range_in13 hres 0 _ rfl)
   have HL:=Lib.hid hl
   clear hc hV q7 hinv hbus hres hl
   refine wp_val (v:=.int .i64 E) (by simp[execOp,Act.eval,b27,go_sem]<;>rfl) ?_
   show Exit.then _ _ Exit.normal (fr.put (some 11) (.int .i64 E)) u
   generalize hc:fr.put (some 11) (Value.int IntKind.i64 E)=f2
   have b10':f2.tmps.getD 10 undef=.pointer (some ⟨w.heap.size+2,0,none⟩):=by rw[←hc,put_other _ _ _ _ (by decide),b10]
   have b11':f2.tmps.getD 11 undef=.int .i64 E:=by rw[←hc];exact put_same _ _ _ (by rw[bs];decide)
   have bd':f2.defers=[]:=by rw[←hc,put_defers,bd]
   clear hc b27 b10 bs bd
   go_wp2_with fail
   obtain⟨F',hp,hF⟩:=HB.out
   exact bodyPost_ret (results_cell_tmp rfl b10' b11' HL.out) bd' ⟨F',pg',by rw[HPO1.out,HPS1.out],fun k hk=>(hF k hk).imp id (fun q=>by omega),by rw[HPG1.out];exact hp,HBT.out⟩
 ·have ek:(k != 3)=true:=by simpa using hk
  have ek':(k==3)=false:=by simpa using hk
  have HPO:=Lib.hid (HPO.out.trans (if_neg hk))
  have HPG:=Lib.hid (HPG.out.trans (if_neg hk))
  have HPS:=Lib.hid (HPS.out.trans (if_neg hk))
  clear hk
  have HW:=Lib.hid (HP.out g pg)
  go_wp2_with (first
   |(refine wpList_load_mid rfl 29 (.tmp 6) rfl w.heap.size 0 rfl (staL s) _ (range_in13 HW.out.rs 0 _ rfl) Tryz.underlying29 rfl info_sta ?_)
   |(refine wpList_load_mid rfl 32 (.tmp 7) rfl (w.heap.size+1) 0 rfl (opL' ⟨k,r,b,i,c,d⟩) _ (range_in13 HW.out.ro 0 _ rfl) Tryz.underlying32 rfl info_opd1 ?_))
  ((with_reducible refine(HSE.out _).mono ?_);rintro e w1 ⟨rfl,b1⟩)
  have HP1:=Lib.hid (HW.out.below b1)
  have HTH:=Lib.hid (show w1.there (w.heap.size+2) 0 23 by obtain⟨C,hC,hz⟩:=HP1.out.res;exact there_block hC 0 23 (by omega))
  clear b1
  go_wp2_with (refine store_row rfl 29 (.tmp 10) (.tmp 17) rfl (w.heap.size+2) rfl (staL T) rfl _ Tryz.underlying29 rfl info_sta (sta_one T) HTH.out ?_;intro Y hY hl;have HL:=Lib.hid hl;have HY:=Lib.hid (HP1.out.stored hY).1;clear hY hl)
  obtain⟨F',hp,hF⟩:=HY.out.bus.elim id id
  exact bodyPost_ret (results_cell_tmp rfl rfl rfl HL.out) rfl ⟨F',pg,by rw[HPO.out,HPS.out];rfl,fun k hk=>(hF k hk).imp id (fun q=>by omega),by rw[HPG.out];exact hp,HY.out.but⟩
end
section
open Go
set_option maxRecDepth 100000
theorem results_cell_cell{P:Program}{fn:Func}{a b:Nat}{T U:TypeId}{tmps:Array Value}{p q:Addr}{c v:Value}{u:World}(hr:fn.results=#[.cell a T,.cell b U])(ha:tmps.getD a undef=.pointer (some p))(hb:tmps.getD b undef=.pointer (some q))(hl:(loadVar T p).run P u=.ok c u)(hm:(loadVar U q).run P u=.ok v u):(results fn tmps).run P u=.ok (.tuple #[c,v]) u:=by
 have h:results fn tmps=(do
   let x ←(do loadVar T (←asAddr (tmps.getD a undef)))
   let y ←(do loadVar U (←asAddr (tmps.getD b undef)))
   pure (.tuple #[x,y])):=by
  unfold results
  rw[hr]
  simp
 rw[h,ha,hb]
 simp only[asAddr,Sem.run_bind,Sem.run_pure,Result.andThen,hl,hm]
section
variable {P:Program} {Q:Exit→Act→World→Prop}
theorem wp_call_or{o:Oper}{b:Act}{u:World}{f:FuncId}{args:Array Value}{K:Act→World→Prop}(h:(execOp b.eval o).run P u=.ok (.enter f args) u)(hc:Calls P f args u fun e u'=>(∃v,e=.returned v∧K (b.put o.dst v) u')∨(∃ch,e=.panicked ch∧Q (.panic ch) b u')):o.wp P b u K Q:=by
 unfold Oper.wp
 rw[h,Oper.upon_enter]
 refine hc.mono ?_
 rintro e u' (⟨v,rfl,hK⟩|⟨ch,rfl,hQ⟩)
 ·exact hK
 ·exact hQ
theorem wpList_val{w:World}{a:Act}{ops:Array Oper}{rest:List Oper}{op:Oper}(hgd:op.guard=none)(o:Op)(_:op.op=o)(v:Value)(h:(execOp a.eval op).run P w=.ok (.value v) w)(hK:wpList P ops Q rest (a.put op.dst v) w):wpList P ops Q (op :: rest) a w:=
 wpList_plain hgd fun _ hh=>by
  unfold Oper.wp
  rw[h]
  exact hh _ _ hK
end
end
section
open Go.ChangeShapes Go.WideShapes Go.ChangeAt Go.RowKit
set_option maxRecDepth 100000
def pinF(s:Sta)(o:Opd):Opd:=if o.kind=3 then⟨3,0,-1,-1,0,ofF s o⟩else o
theorem ended_any(f:Int)(w:World):Calls Tryz.prog 39 #[.iface 122 (.int .i64 f)] w fun e w'=>e=.returned (.int .i64 f)∧w=w':=by
 have hta:∀w:World,(Instr.typeAssert (.iface 122 (.int .i64 f)) 20 122 true).run Tryz.prog w=.ok (.tuple #[.int .i64 f,.bool true]) w:=fun _=>rfl
 go_enter Tryz.func39,Tryz.ntmps39
 go_wp2_with fail
 go_ret
 exact⟨rfl,rfl⟩
set_option maxHeartbeats 8000000
theorem pinned_any(s:Sta)(o:Opd)(hs:StaOk s)(w:World):Calls Tryz.prog 40 #[staV s,opV o] w fun e w'=>e=.returned (opV (pinF s o))∧Below w.heap.size w w':=by
 have HOF:=Lib.hid (fun u=>of_any s o hs u)
 obtain⟨A,hA⟩:∃A,ofF s o=A:=⟨_,rfl⟩
 have HP:=Lib.hid (show pinF s o=if o.kind=3 then⟨3,0,-1,-1,0,A⟩else o by rw[←hA];rfl)
 rw[hA]at HOF
 obtain⟨k,r,b,i,c,d⟩:=o
 dsimp only at HP
 rw[show staV s=.agg (staL s).toArray from rfl,show opV (⟨k,r,b,i,c,d⟩:Opd)=.agg (opL' ⟨k,r,b,i,c,d⟩).toArray from rfl]at HOF
 clear hs hA
 unfold staV
 rw[show opV (⟨k,r,b,i,c,d⟩:Opd)=.agg #[.int .i64 k,.int .i64 r,.int .i64 b,.int .i64 i,.int .i64 c,.int .u32 d]from rfl]
 go_enter Tryz.func40,Tryz.ntmps40
 go_upto_region 1 with fail
 obtain⟨W,hW⟩:∃W,W=((w.alloc (.cells (staL s).toArray 29)).alloc (.cells #[.int .i64 k,.int .i64 r,.int .i64 b,.int .i64 i,.int .i64 c,.int .u32 d] 32)).alloc (.cells zeroP6 32):=⟨_,rfl⟩
 unfold zeroP6 at hW
 rw[←hW]
 obtain⟨h1,h2,h3,hbel⟩:=heap_three hW
 have HBEL:=Lib.hid hbel
 have HRS:=Lib.hid (range_in13 h1 0 (staL s) rfl)
 have HRO:=Lib.hid (range_in13 h2 0 (opL' ⟨k,r,b,i,c,d⟩) rfl)
 have k0:W.cell? ⟨w.heap.size+1,0,none⟩=some (.int .i64 k):=(cell_block h2 0).1
 have HT:=Lib.hid (there_block h3 0 6 (by decide))
 have HW:=Lib.hid (show w.heap.size+2<W.heap.size by rw[hW];simp)
 clear hW h1 h2 h3 hbel
 by_cases hk:k=3
 ·have HP1:=Lib.hid (show pinF s ⟨k,r,b,i,c,d⟩=⟨3,0,-1,-1,0,A⟩from HP.out.trans (if_pos hk))
  clear HP
  subst hk
  go_wp2_with (first
   |(refine wpList_load_mid rfl 29 (.tmp 2) rfl w.heap.size 0 rfl (staL s) _ HRS.out Tryz.underlying29 rfl info_sta ?_)
   |(refine wpList_load_mid rfl 32 (.tmp 3) rfl (w.heap.size+1) 0 rfl (opL' ⟨3,r,b,i,c,d⟩) _ HRO.out Tryz.underlying32 rfl info_opd1 ?_))
  ((with_reducible refine(HOF.out _).mono ?_);rintro e w1 ⟨rfl,b1⟩)
  have HB:=Lib.hid (below_step HBEL.out b1)
  have HT1:=Lib.hid (there_but (F:=fun _=>False) (But.of_below b1) (fun h=>h) HW.out HT.out)
  clear b1
  go_wp2_with (refine store_opd rfl (.tmp 4) (.tmp 12) rfl (w.heap.size+2) rfl ⟨3,0,-1,-1,0,A⟩ rfl HT1.out ?_;intro Y hY hl;have HL:=Lib.hid hl;have HY:=Lib.hid (show Below w.heap.size w Y by rw[hY];exact below_setCells (by omega) _ _ _ HB.out);clear hY hl)
  exact bodyPost_ret (results_cell rfl rfl HL.out) rfl ⟨by rw[HP1.out],HY.out⟩
 ·have HP1:=Lib.hid (show pinF s ⟨k,r,b,i,c,d⟩=⟨k,r,b,i,c,d⟩from HP.out.trans (if_neg hk))
  clear HP
  have e1:(k != 3)=true:=by simpa using hk
  have e2:(k==3)=false:=by simpa using hk
  clear hk
  go_wp2_with (first
   |(refine wpList_load_mid rfl 32 (.tmp 3) rfl (w.heap.size+1) 0 rfl (opL' ⟨k,r,b,i,c,d⟩) _ HRO.out Tryz.underlying32 rfl info_opd1 ?_)
   |(refine store_opd rfl (.tmp 4) (.tmp 8) rfl (w.heap.size+2) rfl ⟨k,r,b,i,c,d⟩ rfl HT.out ?_;intro Y hY hl;have HL:=Lib.hid hl;have HY:=Lib.hid (show Below w.heap.size w Y by rw[hY];exact below_setCells (by omega) _ _ _ HBEL.out);clear hY hl))
  exact bodyPost_ret (results_cell rfl rfl HL.out) rfl ⟨by rw[HP1.out],HY.out⟩
end
end Go.Proofs.YtmdncgfheeijaaaGreat
