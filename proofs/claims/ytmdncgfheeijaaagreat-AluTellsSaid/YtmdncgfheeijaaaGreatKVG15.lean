import Derived.Deep.CutBlock
import Derived.StillTailTactics
import Derived.DeepKeys
import Derived.ProofKit
import Derived.Laws.StructEq
import Derived.Great.BuildSlice
import Derived.Test.YtmdncgfheeijaaaGreatKVG14
import Derived.Test.YtmdncgfheeijaaaGreatKVG2
namespace Go.Proofs.YtmdncgfheeijaaaGreat
open Go.ChangeShapes Go.WideShapes Go.ChangeAt Go.RowKit
set_option maxRecDepth 100000
theorem heap_three{w W:World}{o p q:Obj}(h:W=((w.alloc o).alloc p).alloc q):W.heap[w.heap.size]?=some o∧W.heap[w.heap.size+1]?=some p∧W.heap[w.heap.size+2]?=some q∧Below w.heap.size w W:=by
 obtain⟨h1,h2,h3⟩:=heap_two (W:=(w.alloc o).alloc p) rfl
 have hk:∀k,k<((w.alloc o).alloc p).heap.size→W.heap[k]?=((w.alloc o).alloc p).heap[k]?:=fun k hk=>by
  rw[h]
  exact(below_last (Below.refl _ _) q).block k hk
 refine⟨(hk _ (by simp;omega)).trans h1,(hk _ (by simp)).trans h2,?_,by rw[h];exact below_last h3 _⟩
 rw[h]
 show(((w.alloc o).alloc p).heap.push q)[w.heap.size+2]?=_
 rw[show w.heap.size+2=((w.alloc o).alloc p).heap.size by simp]
 exact Array.getElem?_push_size
theorem sta_put(s:Sta)(i:Nat)(h:i<8)(v:Int):(staL s).toArray.setIfInBounds i (.int .u32 v)=(staL { s with r:=putN s.r i v }).toArray:=by
 rcases(show i=0∨i=1∨i=2∨i=3∨i=4∨i=5∨i=6∨i=7 by omega)with rfl|rfl|rfl|rfl|rfl|rfl|rfl|rfl<;>rfl
theorem sta_putX(s:Sta)(i:Nat)(h:i<8)(v:Int):(staL s).toArray.setIfInBounds (15+i) (.int .u64 v)=(staL { s with x:=putN s.x i v }).toArray:=by
 rcases(show i=0∨i=1∨i=2∨i=3∨i=4∨i=5∨i=6∨i=7 by omega)with rfl|rfl|rfl|rfl|rfl|rfl|rfl|rfl<;>rfl
theorem sta_one(s:Sta):(staL s).toArray.all (·.oneCell')=true:=by simp[staL,Value.oneCell']
structure SB (w:World) (A:Nat) (t:Sta) (u:World):Prop where
 b:u.heap[w.heap.size]?=some (.cells (staL t).toArray 29 (0,0))
 a:∃C,u.heap[A]?=some (.cells C 29 (0,0))∧C.size=23
 lt:w.heap.size<A
 bel:Below w.heap.size w u
theorem SB.set{w u:World}{A:Nat}{t t':Sta}(h:SB w A t u)(k:Nat)(v:Value)(e:(staL t).toArray.setIfInBounds k v=(staL t').toArray):SB w A t' (u.setCell ⟨w.heap.size,k,none⟩ v):=by
 obtain⟨C,hC,hz⟩:=h.a
 refine⟨?_,⟨C,(other_setCell (Nat.ne_of_gt h.lt) k v).trans hC,hz⟩,h.lt,h.bel.setCell (Nat.le_refl _) v⟩
 rw[←e]
 exact block_setCell h.b k v
theorem SB.range{w u:World}{A:Nat}{t:Sta}(h:SB w A t u):u.rangeAt w.heap.size 0 (staL t):=fun j v hj=>by
 rw[Nat.zero_add,(cell_block h.b j).1]
 simpa using hj
theorem SB.there{w u:World}{A:Nat}{t:Sta}(h:SB w A t u):u.there A 0 23:=by
 obtain⟨C,hC,hz⟩:=h.a
 exact there_block hC 0 23 (by omega)
theorem SB.drew{w u:World}{A:Nat}{t:Sta}(h:SB w A t u):SB w A t u.drew:=⟨h.b,h.a,h.lt,h.bel.drew⟩
set_option maxHeartbeats 8000000
theorem rset_any(s:Sta)(o:Opd)(v:Int)(hs:StaOk s)(v0:0≤v)(v1:v<18446744073709551616)(w:World):Calls Tryz.prog 78 #[staV s,opV o,.int .u64 v] w fun e w'=>e=.returned (staV (setF s o v))∧Below w.heap.size w w':=by
 obtain⟨k,r,b,i,c,d⟩:=o
 have HS:=Lib.hid hs
 clear hs
 obtain⟨B,hB⟩:∃B,decide (0≤r∧r≤7)=B:=⟨_,rfl⟩
 have HIN:=Lib.hid (in13_is hB)
 obtain⟨t,ht⟩:∃t,setF s ⟨k,r,b,i,c,d⟩ v=t:=⟨_,rfl⟩
 rw[ht]
 have HT:=Lib.hid ht
 have HB:=Lib.hid hB
 clear hB ht
 unfold staV opV
 go_enter Tryz.func78,Tryz.ntmps78
 go_wp2_with fail
 ((with_reducible refine(HIN.out _).mono ?_);rintro e w' ⟨rfl,rfl⟩)
 obtain⟨A,hA⟩:∃A,w.heap.size+1+1=A:=⟨_,rfl⟩
 rw[hA]
 obtain⟨W,hW⟩:∃W,W=((w.alloc (.cells (staL s).toArray 29)).alloc (.cells #[.int .i64 k,.int .i64 r,.int .i64 b,.int .i64 i,.int .i64 c,.int .u32 d] 32)).alloc (.cells #[.int .u32 0,.int .u32 0,.int .u32 0,.int .u32 0,.int .u32 0,.int .u32 0,.int .u32 0,.int .u32 0,.int .u32 0,.bool false,.bool false,.bool false,.bool false,.bool false,.bool false,.int .u64 0,.int .u64 0,.int .u64 0,.int .u64 0,.int .u64 0,.int .u64 0,.int .u64 0,.int .u64 0] 29):=⟨_,rfl⟩
 rw[show((w.alloc (.cells (staL s).toArray 29)).alloc (.cells #[.int .i64 k,.int .i64 r,.int .i64 b,.int .i64 i,.int .i64 c,.int .u32 d] 32)).alloc (.cells #[.int .u32 0,.int .u32 0,.int .u32 0,.int .u32 0,.int .u32 0,.int .u32 0,.int .u32 0,.int .u32 0,.int .u32 0,.bool false,.bool false,.bool false,.bool false,.bool false,.bool false,.int .u64 0,.int .u64 0,.int .u64 0,.int .u64 0,.int .u64 0,.int .u64 0,.int .u64 0,.int .u64 0] 29)=W from hW.symm]
 obtain⟨g1,g2,g3,g4⟩:=heap_three hW
 have HSB:=Lib.hid (show SB w A s W from⟨g1,⟨_,by rw[←hA];exact g3,rfl⟩,by omega,g4⟩)
 have k0:W.cell? ⟨w.heap.size+1,0,none⟩=some (.int .i64 k):=(cell_block g2 0).1
 have k1:W.cell? ⟨w.heap.size+1,1,none⟩=some (.int .i64 r):=(cell_block g2 1).1
 clear hW g1 g2 g3 g4 hA
 cases B with
 |false=>
  have hn:=of_decide_eq_false HB.out
  have HV:=Lib.hid (show s=t by rw[←HT.out];exact(if_neg hn).symm)
  clear hn
  go_wp2_with (first
   |(refine wpList_load_mid rfl 29 (.tmp 3) rfl w.heap.size 0 rfl (staL s) _ HSB.out.range Tryz.underlying29 rfl info_sta ?_)
   |(refine store_row rfl 29 (.tmp 6) (.tmp 12) rfl A rfl (staL s) rfl _ Tryz.underlying29 rfl info_sta (sta_one s) HSB.out.there ?_;intro Y hY hl;have HL:=Lib.hid hl;have HY:=Lib.hid (show Below w.heap.size w Y by rw[hY];exact below_setCells (Nat.le_of_lt HSB.out.lt) _ _ _ HSB.out.bel);clear hY hl))
  refine bodyPost_ret (results_cell rfl rfl HL.out) rfl ⟨by rw[HV.out],HY.out⟩
 |true=>
  have hr:=of_decide_eq_true HB.out
  obtain⟨j,rfl⟩:=Int.eq_ofNat_of_zero_le hr.1
  have hj:j<8:=by omega
  have HG:=Lib.hid ((if_pos hr).symm.trans HT.out)
  have hj8:(j:Int)<8:=by omega
  clear hr
  go_upto_block 0 with fail
  go_cut [14] (fun _ wx=>SB w A t wx)
  case first=>
   have f0:=(cell_block HSB.out.b j).2
   have fx:=(cell_block HSB.out.b (15+j)).2
   have c0:W.cell? ⟨w.heap.size,j,none⟩=some (.int .u32 (s.r j)):=(cell_block HSB.out.b j).1.trans (by simpa using sta_r s j hj)
   have cx:W.cell? ⟨w.heap.size,15+j,none⟩=some (.int .u64 (s.x j)):=(cell_block HSB.out.b (15+j)).1.trans (by simpa using sta_x s j hj)
   by_cases h1:k=1
   ·subst h1
    have HV:=Lib.hid (show{ s with r:=putN s.r j (v%4294967296) }=t by rw[←HG.out,if_pos rfl];rfl)
    have hw:=IntKind.wrap_u32' v
    go_wp2_with fail
    go_meet
    rw[←HV.out]
    exact HSB.out.set j _ (sta_put s j hj _)
   have e1:(k==1)=false:=by simpa using h1
   by_cases h2:k=2
   ·subst h2
    have HG:=Lib.hid ((if_neg h1).symm.trans HG.out)
    have HG:=Lib.hid ((if_pos rfl).symm.trans HG.out)
    obtain⟨X,hX⟩:∃X,v%256=X:=⟨_,rfl⟩
    have p1:=and255L v v0 v1
    rw[hX]at p1
    have x0:0≤X:=by omega
    have x1:X<256:=by omega
    have HX:=Lib.hid hX
    clear h1 hX f0 c0 fx cx
    rcases(show j=0∨j=1∨j=2∨j=3∨j=4∨j=5∨j=6∨j=7 by omega)with rfl|rfl|rfl|rfl|rfl|rfl|rfl|rfl
    ·have k1:W.cell? ⟨w.heap.size+1,1,none⟩=some (.int .i64 0):=k1
     have a3:bits .and .i64 0 3=0:=by decide +kernel
     have c0:W.cell? ⟨w.heap.size,0,none⟩=some (.int .u32 (s.r 0)):=(cell_block HSB.out.b 0).1.trans rfl
     have f0:=(cell_block HSB.out.b 0).2
     obtain⟨r0,r1⟩:=HS.out.r 0 (by decide)
     have b1:=bits_put0 (s.r 0) X r0 r1 x0 x1
     have HV:=Lib.hid (show{ s with r:=putN s.r 0 (byteF (s.r 0) v false) }=t by rw[←HG.out];rfl)
     have w1:IntKind.u32.wrap 255=255:=by decide
     have w2:IntKind.u32.wrap 65280=65280:=by decide
     have w3:IntKind.u32.wrap X=X:=by rw[IntKind.wrap_u32'];omega
     have w4:IntKind.u32.wrap (X*256)=X*256:=by rw[IntKind.wrap_u32'];omega
     clear hj hj8
     go_wp2_with fail
     go_still_tail 20,(by kernel_rfl)
     change wpList _ _ _ _ _ W.drew
     have HD:=Lib.hid HSB.out.drew
     have c9:W.drew.cell? ⟨w.heap.size,0,none⟩=some (.int .u32 (s.r 0)):=c0
     have f9:W.drew.frozen? ⟨w.heap.size,0,none⟩=false:=f0
     clear c0 f0 k0 k1
     generalize W.drew=V at *
     go_wp2_with fail
     go_meet
     rw[←HV.out]
     exact HD.out.set 0 _ (by rw[show byteF (s.r 0) v false=s.r 0/256*256+X from by rw[←HX.out];rfl];exact sta_put s 0 (by decide) _)
    ·have k1:W.cell? ⟨w.heap.size+1,1,none⟩=some (.int .i64 1):=k1
     have a3:bits .and .i64 1 3=1:=by decide +kernel
     have c0:W.cell? ⟨w.heap.size,1,none⟩=some (.int .u32 (s.r 1)):=(cell_block HSB.out.b 1).1.trans rfl
     have f0:=(cell_block HSB.out.b 1).2
     obtain⟨r0,r1⟩:=HS.out.r 1 (by decide)
     have b1:=bits_put0 (s.r 1) X r0 r1 x0 x1
     have HV:=Lib.hid (show{ s with r:=putN s.r 1 (byteF (s.r 1) v false) }=t by rw[←HG.out];rfl)
     have w1:IntKind.u32.wrap 255=255:=by decide
     have w2:IntKind.u32.wrap 65280=65280:=by decide
     have w3:IntKind.u32.wrap X=X:=by rw[IntKind.wrap_u32'];omega
     have w4:IntKind.u32.wrap (X*256)=X*256:=by rw[IntKind.wrap_u32'];omega
     clear hj hj8
     go_wp2_with fail
     go_still_tail 20,(by kernel_rfl)
     change wpList _ _ _ _ _ W.drew
     have HD:=Lib.hid HSB.out.drew
     have c9:W.drew.cell? ⟨w.heap.size,1,none⟩=some (.int .u32 (s.r 1)):=c0
     have f9:W.drew.frozen? ⟨w.heap.size,1,none⟩=false:=f0
     clear c0 f0 k0 k1
     generalize W.drew=V at *
     go_wp2_with fail
     go_meet
     rw[←HV.out]
     exact HD.out.set 1 _ (by rw[show byteF (s.r 1) v false=s.r 1/256*256+X from by rw[←HX.out];rfl];exact sta_put s 1 (by decide) _)
    ·have k1:W.cell? ⟨w.heap.size+1,1,none⟩=some (.int .i64 2):=k1
     have a3:bits .and .i64 2 3=2:=by decide +kernel
     have c0:W.cell? ⟨w.heap.size,2,none⟩=some (.int .u32 (s.r 2)):=(cell_block HSB.out.b 2).1.trans rfl
     have f0:=(cell_block HSB.out.b 2).2
     obtain⟨r0,r1⟩:=HS.out.r 2 (by decide)
     have b1:=bits_put0 (s.r 2) X r0 r1 x0 x1
     have HV:=Lib.hid (show{ s with r:=putN s.r 2 (byteF (s.r 2) v false) }=t by rw[←HG.out];rfl)
     have w1:IntKind.u32.wrap 255=255:=by decide
     have w2:IntKind.u32.wrap 65280=65280:=by decide
     have w3:IntKind.u32.wrap X=X:=by rw[IntKind.wrap_u32'];omega
     have w4:IntKind.u32.wrap (X*256)=X*256:=by rw[IntKind.wrap_u32'];omega
     clear hj hj8
     go_wp2_with fail
     go_still_tail 20,(by kernel_rfl)
     change wpList _ _ _ _ _ W.drew
     have HD:=Lib.hid HSB.out.drew
     have c9:W.drew.cell? ⟨w.heap.size,2,none⟩=some (.int .u32 (s.r 2)):=c0
     have f9:W.drew.frozen? ⟨w.heap.size,2,none⟩=false:=f0
     clear c0 f0 k0 k1
     generalize W.drew=V at *
     go_wp2_with fail
     go_meet
     rw[←HV.out]
     exact HD.out.set 2 _ (by rw[show byteF (s.r 2) v false=s.r 2/256*256+X from by rw[←HX.out];rfl];exact sta_put s 2 (by decide) _)
    ·have k1:W.cell? ⟨w.heap.size+1,1,none⟩=some (.int .i64 3):=k1
     have a3:bits .and .i64 3 3=3:=by decide +kernel
     have c0:W.cell? ⟨w.heap.size,3,none⟩=some (.int .u32 (s.r 3)):=(cell_block HSB.out.b 3).1.trans rfl
     have f0:=(cell_block HSB.out.b 3).2
     obtain⟨r0,r1⟩:=HS.out.r 3 (by decide)
     have b1:=bits_put0 (s.r 3) X r0 r1 x0 x1
     have HV:=Lib.hid (show{ s with r:=putN s.r 3 (byteF (s.r 3) v false) }=t by rw[←HG.out];rfl)
     have w1:IntKind.u32.wrap 255=255:=by decide
     have w2:IntKind.u32.wrap 65280=65280:=by decide
     have w3:IntKind.u32.wrap X=X:=by rw[IntKind.wrap_u32'];omega
     have w4:IntKind.u32.wrap (X*256)=X*256:=by rw[IntKind.wrap_u32'];omega
     clear hj hj8
     go_wp2_with fail
     go_still_tail 20,(by kernel_rfl)
     change wpList _ _ _ _ _ W.drew
     have HD:=Lib.hid HSB.out.drew
     have c9:W.drew.cell? ⟨w.heap.size,3,none⟩=some (.int .u32 (s.r 3)):=c0
     have f9:W.drew.frozen? ⟨w.heap.size,3,none⟩=false:=f0
     clear c0 f0 k0 k1
     generalize W.drew=V at *
     go_wp2_with fail
     go_meet
     rw[←HV.out]
     exact HD.out.set 3 _ (by rw[show byteF (s.r 3) v false=s.r 3/256*256+X from by rw[←HX.out];rfl];exact sta_put s 3 (by decide) _)
    ·have k1:W.cell? ⟨w.heap.size+1,1,none⟩=some (.int .i64 4):=k1
     have a3:bits .and .i64 4 3=0:=by decide +kernel
     have c0:W.cell? ⟨w.heap.size,0,none⟩=some (.int .u32 (s.r 0)):=(cell_block HSB.out.b 0).1.trans rfl
     have f0:=(cell_block HSB.out.b 0).2
     obtain⟨r0,r1⟩:=HS.out.r 0 (by decide)
     have b1:=bits_put8 (s.r 0) X r0 r1 x0 x1
     have HV:=Lib.hid (show{ s with r:=putN s.r 0 (byteF (s.r 0) v true) }=t by rw[←HG.out];rfl)
     have w1:IntKind.u32.wrap 255=255:=by decide
     have w2:IntKind.u32.wrap 65280=65280:=by decide
     have w3:IntKind.u32.wrap X=X:=by rw[IntKind.wrap_u32'];omega
     have w4:IntKind.u32.wrap (X*256)=X*256:=by rw[IntKind.wrap_u32'];omega
     clear hj hj8
     go_wp2_with fail
     go_still_tail 20,(by kernel_rfl)
     change wpList _ _ _ _ _ W.drew
     have HD:=Lib.hid HSB.out.drew
     have c9:W.drew.cell? ⟨w.heap.size,0,none⟩=some (.int .u32 (s.r 0)):=c0
     have f9:W.drew.frozen? ⟨w.heap.size,0,none⟩=false:=f0
     clear c0 f0 k0 k1
     generalize W.drew=V at *
     go_wp2_with fail
     go_meet
     rw[←HV.out]
     exact HD.out.set 0 _ (by rw[show byteF (s.r 0) v true=s.r 0/65536*65536+X*256+s.r 0%256 from by rw[←HX.out];rfl];exact sta_put s 0 (by decide) _)
    ·have k1:W.cell? ⟨w.heap.size+1,1,none⟩=some (.int .i64 5):=k1
     have a3:bits .and .i64 5 3=1:=by decide +kernel
     have c0:W.cell? ⟨w.heap.size,1,none⟩=some (.int .u32 (s.r 1)):=(cell_block HSB.out.b 1).1.trans rfl
     have f0:=(cell_block HSB.out.b 1).2
     obtain⟨r0,r1⟩:=HS.out.r 1 (by decide)
     have b1:=bits_put8 (s.r 1) X r0 r1 x0 x1
     have HV:=Lib.hid (show{ s with r:=putN s.r 1 (byteF (s.r 1) v true) }=t by rw[←HG.out];rfl)
     have w1:IntKind.u32.wrap 255=255:=by decide
     have w2:IntKind.u32.wrap 65280=65280:=by decide
     have w3:IntKind.u32.wrap X=X:=by rw[IntKind.wrap_u32'];omega
     have w4:IntKind.u32.wrap (X*256)=X*256:=by rw[IntKind.wrap_u32'];omega
     clear hj hj8
     go_wp2_with fail
     go_still_tail 20,(by kernel_rfl)
     change wpList _ _ _ _ _ W.drew
     have HD:=Lib.hid HSB.out.drew
     have c9:W.drew.cell? ⟨w.heap.size,1,none⟩=some (.int .u32 (s.r 1)):=c0
     have f9:W.drew.frozen? ⟨w.heap.size,1,none⟩=false:=f0
     clear c0 f0 k0 k1
     generalize W.drew=V at *
     go_wp2_with fail
     go_meet
     rw[←HV.out]
     exact HD.out.set 1 _ (by rw[show byteF (s.r 1) v true=s.r 1/65536*65536+X*256+s.r 1%256 from by rw[←HX.out];rfl];exact sta_put s 1 (by decide) _)
    ·have k1:W.cell? ⟨w.heap.size+1,1,none⟩=some (.int .i64 6):=k1
     have a3:bits .and .i64 6 3=2:=by decide +kernel
     have c0:W.cell? ⟨w.heap.size,2,none⟩=some (.int .u32 (s.r 2)):=(cell_block HSB.out.b 2).1.trans rfl
     have f0:=(cell_block HSB.out.b 2).2
     obtain⟨r0,r1⟩:=HS.out.r 2 (by decide)
     have b1:=bits_put8 (s.r 2) X r0 r1 x0 x1
     have HV:=Lib.hid (show{ s with r:=putN s.r 2 (byteF (s.r 2) v true) }=t by rw[←HG.out];rfl)
     have w1:IntKind.u32.wrap 255=255:=by decide
     have w2:IntKind.u32.wrap 65280=65280:=by decide
     have w3:IntKind.u32.wrap X=X:=by rw[IntKind.wrap_u32'];omega
     have w4:IntKind.u32.wrap (X*256)=X*256:=by rw[IntKind.wrap_u32'];omega
     clear hj hj8
     go_wp2_with fail
     go_still_tail 20,(by kernel_rfl)
     change wpList _ _ _ _ _ W.drew
     have HD:=Lib.hid HSB.out.drew
     have c9:W.drew.cell? ⟨w.heap.size,2,none⟩=some (.int .u32 (s.r 2)):=c0
     have f9:W.drew.frozen? ⟨w.heap.size,2,none⟩=false:=f0
     clear c0 f0 k0 k1
     generalize W.drew=V at *
     go_wp2_with fail
     go_meet
     rw[←HV.out]
     exact HD.out.set 2 _ (by rw[show byteF (s.r 2) v true=s.r 2/65536*65536+X*256+s.r 2%256 from by rw[←HX.out];rfl];exact sta_put s 2 (by decide) _)
    ·have k1:W.cell? ⟨w.heap.size+1,1,none⟩=some (.int .i64 7):=k1
     have a3:bits .and .i64 7 3=3:=by decide +kernel
     have c0:W.cell? ⟨w.heap.size,3,none⟩=some (.int .u32 (s.r 3)):=(cell_block HSB.out.b 3).1.trans rfl
     have f0:=(cell_block HSB.out.b 3).2
     obtain⟨r0,r1⟩:=HS.out.r 3 (by decide)
     have b1:=bits_put8 (s.r 3) X r0 r1 x0 x1
     have HV:=Lib.hid (show{ s with r:=putN s.r 3 (byteF (s.r 3) v true) }=t by rw[←HG.out];rfl)
     have w1:IntKind.u32.wrap 255=255:=by decide
     have w2:IntKind.u32.wrap 65280=65280:=by decide
     have w3:IntKind.u32.wrap X=X:=by rw[IntKind.wrap_u32'];omega
     have w4:IntKind.u32.wrap (X*256)=X*256:=by rw[IntKind.wrap_u32'];omega
     clear hj hj8
     go_wp2_with fail
     go_still_tail 20,(by kernel_rfl)
     change wpList _ _ _ _ _ W.drew
     have HD:=Lib.hid HSB.out.drew
     have c9:W.drew.cell? ⟨w.heap.size,3,none⟩=some (.int .u32 (s.r 3)):=c0
     have f9:W.drew.frozen? ⟨w.heap.size,3,none⟩=false:=f0
     clear c0 f0 k0 k1
     generalize W.drew=V at *
     go_wp2_with fail
     go_meet
     rw[←HV.out]
     exact HD.out.set 3 _ (by rw[show byteF (s.r 3) v true=s.r 3/65536*65536+X*256+s.r 3%256 from by rw[←HX.out];rfl];exact sta_put s 3 (by decide) _)
   have e2:(k==2)=false:=by simpa using h2
   by_cases h5:k=5
   ·subst h5
    have HV:=Lib.hid (show{ s with x:=putN s.x j v }=t by rw[←HG.out,if_neg h1,if_neg h2,if_pos rfl];rfl)
    clear h1 h2
    go_wp2_with fail
    go_meet
    rw[←HV.out]
    exact HSB.out.set (15+j) _ (sta_putX s j hj _)
   have e5:(k==5)=false:=by simpa using h5
   have HV:=Lib.hid (show s=t by rw[←HG.out,if_neg h1,if_neg h2,if_neg h5])
   clear h1 h2 h5
   go_wp2_with fail
   go_meet
   rw[←HV.out]
   exact HSB.out
  case rest=>
  have HQ:=Lib.hid hcut
  clear hcut
  go_wp2_with (first
   |(refine wpList_load_mid rfl 29 (.tmp 3) rfl w.heap.size 0 rfl (staL t) _ HQ.out.range Tryz.underlying29 rfl info_sta ?_)
   |(refine store_row rfl 29 (.tmp 6) (.tmp 56) rfl A rfl (staL t) rfl _ Tryz.underlying29 rfl info_sta (sta_one t) HQ.out.there ?_;intro Y hY hl;have HL:=Lib.hid hl;have HY:=Lib.hid (show Below w.heap.size w Y by rw[hY];exact below_setCells (Nat.le_of_lt HQ.out.lt) _ _ _ HQ.out.bel);clear hY hl))
  refine bodyPost_ret (results_cell rfl rfl HL.out) rfl ⟨rfl,HY.out⟩
theorem cell_b:Tryz.prog.cellsOf 4=1:=by kernel_rfl
theorem cell_u4:Tryz.prog.cellsOf 22=1:=by kernel_rfl
theorem cell_u8:Tryz.prog.cellsOf 26=1:=by kernel_rfl
theorem cell_fl:Tryz.prog.cellsOf 25=6:=by kernel_rfl
theorem cell_a4:Tryz.prog.cellsOf 23=8:=by kernel_rfl
theorem cell_a8:Tryz.prog.cellsOf 27=8:=by kernel_rfl
theorem cell_st:Tryz.prog.cellsOf 29=23:=by kernel_rfl
def arrD(H:Type)(k:IntKind)(f:Nat→Int):DataW H:=.agg [.lit (.int k (f 0)),.lit (.int k (f 1)),.lit (.int k (f 2)),.lit (.int k (f 3)),.lit (.int k (f 4)),.lit (.int k (f 5)),.lit (.int k (f 6)),.lit (.int k (f 7))]
def flgD(H:Type)(c p z s o d:Bool):DataW H:=.agg [.lit (.bool c),.lit (.bool p),.lit (.bool z),.lit (.bool s),.lit (.bool o),.lit (.bool d)]
def staD(H:Type)(s:Sta):DataW H:=.agg [arrD H .u32 s.r,.lit (.int .u32 s.ip),flgD H s.c s.p s.z s.s s.o s.d,arrD H .u64 s.x]
structure WfS (s:Sta):Prop where
 r:∀i,i<8→(.int .u32 (s.r i):Lit).wf=true
 ip:(.int .u32 s.ip:Lit).wf=true
 x:∀i,i<8→(.int .u64 (s.x i):Lit).wf=true
section
variable {H:Type} {enc:TypeId×Value→H} {w:World} {base:Nat} {spare:Nat→Bool} {held:Bool}
theorem open_arru32{n:Nat}{c0 c1 c2 c3 c4 c5 c6 c7:Value}{y:DataW H×List MemPlace}(h:DataW.trod enc Tryz.prog w base spare held n 23 [c0,c1,c2,c3,c4,c5,c6,c7]=some y):∃f:Nat→Int,(c0=.int .u32 (f 0)∧c1=.int .u32 (f 1)∧c2=.int .u32 (f 2)∧c3=.int .u32 (f 3)∧c4=.int .u32 (f 4)∧c5=.int .u32 (f 5)∧c6=.int .u32 (f 6)∧c7=.int .u32 (f 7))∧y=(arrD H .u32 f,[])∧∀i,i<8→(.int .u32 (f i):Lit).wf=true:=by
 obtain⟨xs,m,_,hx,_,hlen,hg⟩:=DataW.trod_array Tryz.underlying23 h
 match xs,hlen with
 |[y0,y1,y2,y3,y4,y5,y6,y7],_=>
  have g0:=hg 0 (by decide)
  have g1:=hg 1 (by decide)
  have g2:=hg 2 (by decide)
  have g3:=hg 3 (by decide)
  have g4:=hg 4 (by decide)
  have g5:=hg 5 (by decide)
  have g6:=hg 6 (by decide)
  have g7:=hg 7 (by decide)
  simp[cell_u4]at g0 g1 g2 g3 g4 g5 g6 g7
  obtain⟨a0,e0,rfl,w0⟩:=DataW.trod_int Tryz.underlying22 g0
  injection e0 with e0 _;subst e0
  obtain⟨a1,e1,rfl,w1⟩:=DataW.trod_int Tryz.underlying22 g1
  injection e1 with e1 _;subst e1
  obtain⟨a2,e2,rfl,w2⟩:=DataW.trod_int Tryz.underlying22 g2
  injection e2 with e2 _;subst e2
  obtain⟨a3,e3,rfl,w3⟩:=DataW.trod_int Tryz.underlying22 g3
  injection e3 with e3 _;subst e3
  obtain⟨a4,e4,rfl,w4⟩:=DataW.trod_int Tryz.underlying22 g4
  injection e4 with e4 _;subst e4
  obtain⟨a5,e5,rfl,w5⟩:=DataW.trod_int Tryz.underlying22 g5
  injection e5 with e5 _;subst e5
  obtain⟨a6,e6,rfl,w6⟩:=DataW.trod_int Tryz.underlying22 g6
  injection e6 with e6 _;subst e6
  obtain⟨a7,e7,rfl,w7⟩:=DataW.trod_int Tryz.underlying22 g7
  injection e7 with e7 _;subst e7
  refine⟨fun i=>[a0,a1,a2,a3,a4,a5,a6,a7].getD i 0,⟨rfl,rfl,rfl,rfl,rfl,rfl,rfl,rfl⟩,by rw[hx];rfl,fun i hi=>?_⟩
  rcases(show i=0∨i=1∨i=2∨i=3∨i=4∨i=5∨i=6∨i=7 by omega)with rfl|rfl|rfl|rfl|rfl|rfl|rfl|rfl
  ·exact w0
  ·exact w1
  ·exact w2
  ·exact w3
  ·exact w4
  ·exact w5
  ·exact w6
  ·exact w7
theorem open_arru64{n:Nat}{c0 c1 c2 c3 c4 c5 c6 c7:Value}{y:DataW H×List MemPlace}(h:DataW.trod enc Tryz.prog w base spare held n 27 [c0,c1,c2,c3,c4,c5,c6,c7]=some y):∃f:Nat→Int,(c0=.int .u64 (f 0)∧c1=.int .u64 (f 1)∧c2=.int .u64 (f 2)∧c3=.int .u64 (f 3)∧c4=.int .u64 (f 4)∧c5=.int .u64 (f 5)∧c6=.int .u64 (f 6)∧c7=.int .u64 (f 7))∧y=(arrD H .u64 f,[])∧∀i,i<8→(.int .u64 (f i):Lit).wf=true:=by
 obtain⟨xs,m,_,hx,_,hlen,hg⟩:=DataW.trod_array Tryz.underlying27 h
 match xs,hlen with
 |[y0,y1,y2,y3,y4,y5,y6,y7],_=>
  have g0:=hg 0 (by decide)
  have g1:=hg 1 (by decide)
  have g2:=hg 2 (by decide)
  have g3:=hg 3 (by decide)
  have g4:=hg 4 (by decide)
  have g5:=hg 5 (by decide)
  have g6:=hg 6 (by decide)
  have g7:=hg 7 (by decide)
  simp[cell_u8]at g0 g1 g2 g3 g4 g5 g6 g7
  obtain⟨a0,e0,rfl,w0⟩:=DataW.trod_int Tryz.underlying26 g0
  injection e0 with e0 _;subst e0
  obtain⟨a1,e1,rfl,w1⟩:=DataW.trod_int Tryz.underlying26 g1
  injection e1 with e1 _;subst e1
  obtain⟨a2,e2,rfl,w2⟩:=DataW.trod_int Tryz.underlying26 g2
  injection e2 with e2 _;subst e2
  obtain⟨a3,e3,rfl,w3⟩:=DataW.trod_int Tryz.underlying26 g3
  injection e3 with e3 _;subst e3
  obtain⟨a4,e4,rfl,w4⟩:=DataW.trod_int Tryz.underlying26 g4
  injection e4 with e4 _;subst e4
  obtain⟨a5,e5,rfl,w5⟩:=DataW.trod_int Tryz.underlying26 g5
  injection e5 with e5 _;subst e5
  obtain⟨a6,e6,rfl,w6⟩:=DataW.trod_int Tryz.underlying26 g6
  injection e6 with e6 _;subst e6
  obtain⟨a7,e7,rfl,w7⟩:=DataW.trod_int Tryz.underlying26 g7
  injection e7 with e7 _;subst e7
  refine⟨fun i=>[a0,a1,a2,a3,a4,a5,a6,a7].getD i 0,⟨rfl,rfl,rfl,rfl,rfl,rfl,rfl,rfl⟩,by rw[hx];rfl,fun i hi=>?_⟩
  rcases(show i=0∨i=1∨i=2∨i=3∨i=4∨i=5∨i=6∨i=7 by omega)with rfl|rfl|rfl|rfl|rfl|rfl|rfl|rfl
  ·exact w0
  ·exact w1
  ·exact w2
  ·exact w3
  ·exact w4
  ·exact w5
  ·exact w6
  ·exact w7
theorem open_flg{n:Nat}{k0 k1 k2 k3 k4 k5:Value}{y:DataW H×List MemPlace}(h:DataW.trod enc Tryz.prog w base spare held n 25 [k0,k1,k2,k3,k4,k5]=some y):∃c p z s o d:Bool,(k0=.bool c∧k1=.bool p∧k2=.bool z∧k3=.bool s∧k4=.bool o∧k5=.bool d)∧y=(flgD H c p z s o d,[]):=by
 obtain⟨xs,m,_,hx,_,hlen,hg⟩:=DataW.trod_struct Tryz.underlying25 h
 match xs,hlen with
 |[y0,y1,y2,y3,y4,y5],_=>
  have g0:=hg 0 _ rfl
  have g1:=hg 1 _ rfl
  have g2:=hg 2 _ rfl
  have g3:=hg 3 _ rfl
  have g4:=hg 4 _ rfl
  have g5:=hg 5 _ rfl
  simp[cell_b]at g0 g1 g2 g3 g4 g5
  obtain⟨b0,e0,rfl⟩:=DataW.trod_bool Tryz.underlying4 g0
  injection e0 with e0 _;subst e0
  obtain⟨b1,e1,rfl⟩:=DataW.trod_bool Tryz.underlying4 g1
  injection e1 with e1 _;subst e1
  obtain⟨b2,e2,rfl⟩:=DataW.trod_bool Tryz.underlying4 g2
  injection e2 with e2 _;subst e2
  obtain⟨b3,e3,rfl⟩:=DataW.trod_bool Tryz.underlying4 g3
  injection e3 with e3 _;subst e3
  obtain⟨b4,e4,rfl⟩:=DataW.trod_bool Tryz.underlying4 g4
  injection e4 with e4 _;subst e4
  obtain⟨b5,e5,rfl⟩:=DataW.trod_bool Tryz.underlying4 g5
  injection e5 with e5 _;subst e5
  exact⟨b0,b1,b2,b3,b4,b5,⟨rfl,rfl,rfl,rfl,rfl,rfl⟩,by rw[hx];rfl⟩
set_option maxRecDepth 10000
theorem open_sta{r:Reach}{b0:Nat}{v:Value}{x:DataW H}{ps:List MemPlace}(hv:Value.okWide Tryz.prog w r b0 29 v)(h:DataW.Trod enc Tryz.prog w base spare held 29 v x ps):
  ∃S:Sta,v=staV S∧x=staD H S∧ps=[]∧WfS S:=by
 obtain⟨cs,rfl,hsz⟩:=okWide_struct Tryz.underlying29 hv
 obtain⟨fuel,hf⟩:=h
 obtain⟨xs,n,_,hx,_,hlen,hg⟩:=DataW.trod_struct Tryz.underlying29 hf
 obtain⟨l⟩:=cs
 match l,hsz.trans cell_st,xs,hlen with
 |[k0,k1,k2,k3,k4,k5,k6,k7,k8,k9,k10,k11,k12,k13,k14,k15,k16,k17,k18,k19,k20,k21,k22],_,[y0,y1,y2,y3],_=>
  have g0:=hg 0 _ rfl
  have g1:=hg 1 _ rfl
  have g2:=hg 2 _ rfl
  have g3:=hg 3 _ rfl
  simp[Value.cells,cell_a4,cell_a8,cell_u4,cell_fl]at g0 g1 g2 g3
  obtain⟨R,⟨rfl,rfl,rfl,rfl,rfl,rfl,rfl,rfl⟩,rfl,w0⟩:=open_arru32 g0
  obtain⟨ip,e1,rfl,w1⟩:=DataW.trod_int Tryz.underlying22 g1
  injection e1 with e1 _;subst e1
  obtain⟨c,p,z,s,o,d,⟨rfl,rfl,rfl,rfl,rfl,rfl⟩,rfl⟩:=open_flg g2
  obtain⟨X,⟨rfl,rfl,rfl,rfl,rfl,rfl,rfl,rfl⟩,rfl,w3⟩:=open_arru64 g3
  simp only[Prod.mk.injEq]at hx
  exact⟨⟨R,ip,c,p,z,s,o,d,X⟩,rfl,by simpa[staD]using hx.1,by simpa using hx.2,w0,w1,w3⟩
theorem shut_sta(S:Sta)(h:WfS S):DataW.Trod enc Tryz.prog w base spare held 29 (staV S) (staD H S) []:=by
 obtain⟨hr,hi,hx⟩:=h
 have r0:=hr 0 (by decide)
 have x0:=hx 0 (by decide)
 have r1:=hr 1 (by decide)
 have x1:=hx 1 (by decide)
 have r2:=hr 2 (by decide)
 have x2:=hx 2 (by decide)
 have r3:=hr 3 (by decide)
 have x3:=hx 3 (by decide)
 have r4:=hr 4 (by decide)
 have x4:=hx 4 (by decide)
 have r5:=hr 5 (by decide)
 have x5:=hx 5 (by decide)
 have r6:=hr 6 (by decide)
 have x6:=hx 6 (by decide)
 have r7:=hr 7 (by decide)
 have x7:=hx 7 (by decide)
 exact⟨4,by simp[staD,arrD,flgD,staV,staL,DataW.trod,Value.cells,List.range,List.range.loop,Tryz.underlying29,Tryz.underlying25,Tryz.underlying23,Tryz.underlying27,Tryz.underlying4,Tryz.underlying22,Tryz.underlying26,cell_b,cell_u4,cell_u8,cell_fl,cell_a4,cell_a8,cell_st,hi,r0,x0,r1,x1,r2,x2,r3,x3,r4,x4,r5,x5,r6,x6,r7,x7]⟩
end
def litS(s:Sta):List Lit:=[.int .u32 (s.r 0),.int .u32 (s.r 1),.int .u32 (s.r 2),.int .u32 (s.r 3),.int .u32 (s.r 4),.int .u32 (s.r 5),.int .u32 (s.r 6),.int .u32 (s.r 7),.int .u32 s.ip,.bool s.c,.bool s.p,.bool s.z,.bool s.s,.bool s.o,.bool s.d,.int .u64 (s.x 0),.int .u64 (s.x 1),.int .u64 (s.x 2),.int .u64 (s.x 3),.int .u64 (s.x 4),.int .u64 (s.x 5),.int .u64 (s.x 6),.int .u64 (s.x 7)]
theorem eq_deep{t:TypeId}(hk:Tryz.prog.keyTypeAt 4 t=true){a b:Value}{la lb:List Lit}(fa:a.formed Tryz.prog t=true)(fb:b.formed Tryz.prog t=true)(ha:Tryz.prog.keyLits 4 t a.cells.toList=some la)(hb:Tryz.prog.keyLits 4 t b.cells.toList=some lb)(w:World):∃r:Bool,(Op.equalIn 10000 t a b).run Tryz.prog w=.ok r w∧(r=true↔la=lb):=by
 rw[show(10000:Nat)=9996+4 from rfl]
 exact run_equalIn_deep (P:=Tryz.prog) 9996 4 t hk w 4 4 a b la lb fa fb ha hb
theorem sta_key:Tryz.prog.keyTypeAt 4 29=true:=by kernel_rfl
theorem sta_form(s:Sta):(staV s).formed Tryz.prog 29=true:=by kernel_rfl
set_option maxRecDepth 10000
theorem sta_lits(s:Sta)(h:WfS s):Tryz.prog.keyLits 4 29 (staV s).cells.toList=some (litS s):=by
 obtain⟨hr,hi,hx⟩:=h
 have r0:=hr 0 (by decide)
 have x0:=hx 0 (by decide)
 have r1:=hr 1 (by decide)
 have x1:=hx 1 (by decide)
 have r2:=hr 2 (by decide)
 have x2:=hx 2 (by decide)
 have r3:=hr 3 (by decide)
 have x3:=hx 3 (by decide)
 have r4:=hr 4 (by decide)
 have x4:=hx 4 (by decide)
 have r5:=hr 5 (by decide)
 have x5:=hx 5 (by decide)
 have r6:=hr 6 (by decide)
 have x6:=hx 6 (by decide)
 have r7:=hr 7 (by decide)
 have x7:=hx 7 (by decide)
 simp[litS,staV,staL,Program.keyLits,Value.cells,List.range,List.range.loop,Tryz.underlying29,Tryz.underlying25,Tryz.underlying23,Tryz.underlying27,Tryz.underlying4,Tryz.underlying22,Tryz.underlying26,cell_b,cell_u4,cell_u8,cell_fl,cell_a4,cell_a8,cell_st,hi,r0,x0,r1,x1,r2,x2,r3,x3,r4,x4,r5,x5,r6,x6,r7,x7]
 repeat' split
 all_goals first
  |rfl
  |(rename_i h;exact absurd (fun i hi=>by rcases(show i=0∨i=1∨i=2∨i=3∨i=4∨i=5 by omega)with rfl|rfl|rfl|rfl|rfl|rfl<;>simp) h)
  |(rename_i h;exact absurd (fun i hi=>by rcases(show i=0∨i=1∨i=2∨i=3 by omega)with rfl|rfl|rfl|rfl<;>simp) h)
set_option maxRecDepth 100000
theorem sta_eqR(w:World)(s t:Sta)(hs:WfS s)(ht:WfS t):∃r:Bool,(binOp .eql 29 (staV s) (staV t)).run Tryz.prog w=.ok (.bool r) w∧(r=true↔litS s=litS t):=by
 obtain⟨r,hr,hi⟩:=eq_deep sta_key (sta_form s) (sta_form t) (sta_lits s hs) (sta_lits t ht) w
 refine⟨r,?_,hi⟩
 show(binOp .eql 29 (.agg (staL s).toArray) (.agg (staL t).toArray)).run Tryz.prog w=_
 rw[run_eql_struct]
 show((Op.equalIn 10000 29 (staV s) (staV t)).run Tryz.prog w).andThen _=_
 rw[hr]
 rfl
theorem sta_guard1:Tryz.prog.eqGuardType Tryz.prog.depth 29=false:=by kernel_rfl
def getG(s:Sta)(o:Opd):Int:=if 0≤o.reg∧o.reg≤7 then getF s o else 0
theorem getG_in(s:Sta)(o:Opd)(h:0≤o.reg∧o.reg≤7):getG s o=getF s o:=if_pos h
def GetC(f:FuncId):Prop:=∀(s:Sta) (o:Opd),StaOk s→0≤o.disp→o.disp<4294967296→∀w:World,Calls Tryz.prog f #[staV s,opV o] w fun e w'=>e=.returned (.int .u64 (getG s o))∧Below w.heap.size w w'
def SetC(f:FuncId):Prop:=∀(s:Sta) (o:Opd) (v:Int),StaOk s→0≤v→v<18446744073709551616→∀w:World,Calls Tryz.prog f #[staV s,opV o,.int .u64 v] w fun e w'=>e=.returned (staV (setF s o v))∧Below w.heap.size w w'
theorem wf_ok{s:Sta}(h:WfS s):StaOk s:=by
 refine⟨fun i hi=>?_,fun i hi=>?_,?_⟩
 ·have:=bounds_u32 (h.r i hi);omega
 ·have:=bounds_u64 (h.x i hi);omega
 ·have:=bounds_u32 h.ip;omega
theorem ok_wf{s:Sta}(h:StaOk s):WfS s:=by
 refine⟨fun i hi=>?_,?_,fun i hi=>?_⟩
 ·have:=h.r i hi;exact WalkArith.wf_u32 (by omega)
 ·have:=h.ip;exact WalkArith.wf_u32 (by omega)
 ·have:=h.x i hi;exact WalkArith.wf_u64 (by omega)
theorem put_ok{g:Nat→Int}{M y:Int}(hg:∀i,i<8→0≤g i∧g i<M)(hy:0≤y∧y<M)(k:Nat):∀i,i<8→0≤putN g k y i∧putN g k y i<M:=fun i hi=>by
 unfold putN
 split
 ·exact hy
 ·exact hg i hi
theorem set_ok{s:Sta}(h:StaOk s)(o:Opd)(v:Int)(v0:0≤v)(v1:v<18446744073709551616):StaOk (setF s o v):=by
 have hp:∀k y,(0≤y∧y<4294967296)→StaOk { s with r:=putN s.r k y }:=fun k y hy=>⟨put_ok h.r hy k,h.x,h.ip⟩
 unfold setF
 split
 ·split
  ·exact hp _ _ (by omega)
  ·split
   ·refine hp _ _ ?_
    have hq:=h.r (o.reg%4).toNat (by omega)
    unfold byteF
    split<;>omega
   ·split
    ·exact⟨h.r,put_ok h.x ⟨v0,v1⟩ _,h.ip⟩
    ·exact h
 ·exact h
theorem range_in13{u:World}{B:Nat}{C:Array Value}{T:TypeId}(h:u.heap[B]?=some (.cells C T (0,0)))(o:Nat)(cs:List Value)(hc:(C.toList.drop o).take cs.length=cs):u.rangeAt B o cs:=fun i v hi=>by
 have hl:=(List.getElem?_eq_some_iff.1 hi).1
 rw[(cell_block h (o+i)).1]
 rw[←hc]at hi
 simpa[List.getElem?_take,List.getElem?_drop,hl]using hi
def zeroP6:Array Value:=#[.int .i64 0,.int .i64 0,.int .i64 0,.int .i64 0,.int .i64 0,.int .u32 0]
theorem there_any(r:Int)(w:World):Calls Tryz.prog 140 #[.int .i64 r] w fun e w'=>e=.returned (.bool (decide (0≤r∧r≤7)))∧w=w':=by
 by_cases h0:0≤r
 ·by_cases h7:r≤7
  ·rw[show decide (0≤r∧r≤7)=true by simp[h0,h7]]
   have e0:decide (0≤r)=true:=by simpa using h0
   have e7:decide (r≤7)=true:=by simpa using h7
   clear h0 h7
   go_enter Tryz.func140,Tryz.ntmps140
   go_wp2
   go_ret
   exact⟨rfl,rfl⟩
  ·rw[show decide (0≤r∧r≤7)=false by simp[h7]]
   have e0:decide (0≤r)=true:=by simpa using h0
   have e7:decide (r≤7)=false:=by simpa using h7
   clear h0 h7
   go_enter Tryz.func140,Tryz.ntmps140
   go_wp2
   go_ret
   exact⟨rfl,rfl⟩
 ·rw[show decide (0≤r∧r≤7)=false by simp[h0]]
  have e0:decide (0≤r)=false:=by simpa using h0
  clear h0
  go_enter Tryz.func140,Tryz.ntmps140
  go_wp2
  go_ret
  exact⟨rfl,rfl⟩
theorem there_is{r:Int}{B:Bool}(h:decide (0≤r∧r≤7)=B)(w:World):Calls Tryz.prog 140 #[.int .i64 r] w fun e w'=>e=.returned (.bool B)∧w=w':=by
 subst h
 exact there_any r w
theorem home_any(j:Nat)(hj:j<8)(w:World):Calls Tryz.prog 141 #[.int .i64 (j:Int)] w fun e w'=>e=.returned (.tuple #[.int .i64 ((j%4:Nat):Int),.int .u64 (if j<4 then 0 else 8)])∧w=w':=by
 rcases(show j=0∨j=1∨j=2∨j=3∨j=4∨j=5∨j=6∨j=7 by omega)with rfl|rfl|rfl|rfl|rfl|rfl|rfl|rfl
 ·have a3:bits .and .i64 0 3=0:=by decide +kernel
  show Calls _ _ #[.int .i64 0] _ _
  go_enter Tryz.func141,Tryz.ntmps141
  go_wp2
  go_ret2
  exact⟨rfl,rfl⟩
 ·have a3:bits .and .i64 1 3=1:=by decide +kernel
  show Calls _ _ #[.int .i64 1] _ _
  go_enter Tryz.func141,Tryz.ntmps141
  go_wp2
  go_ret2
  exact⟨rfl,rfl⟩
 ·have a3:bits .and .i64 2 3=2:=by decide +kernel
  show Calls _ _ #[.int .i64 2] _ _
  go_enter Tryz.func141,Tryz.ntmps141
  go_wp2
  go_ret2
  exact⟨rfl,rfl⟩
 ·have a3:bits .and .i64 3 3=3:=by decide +kernel
  show Calls _ _ #[.int .i64 3] _ _
  go_enter Tryz.func141,Tryz.ntmps141
  go_wp2
  go_ret2
  exact⟨rfl,rfl⟩
 ·have a3:bits .and .i64 4 3=0:=by decide +kernel
  show Calls _ _ #[.int .i64 4] _ _
  go_enter Tryz.func141,Tryz.ntmps141
  go_wp2
  go_ret2
  exact⟨rfl,rfl⟩
 ·have a3:bits .and .i64 5 3=1:=by decide +kernel
  show Calls _ _ #[.int .i64 5] _ _
  go_enter Tryz.func141,Tryz.ntmps141
  go_wp2
  go_ret2
  exact⟨rfl,rfl⟩
 ·have a3:bits .and .i64 6 3=2:=by decide +kernel
  show Calls _ _ #[.int .i64 6] _ _
  go_enter Tryz.func141,Tryz.ntmps141
  go_wp2
  go_ret2
  exact⟨rfl,rfl⟩
 ·have a3:bits .and .i64 7 3=3:=by decide +kernel
  show Calls _ _ #[.int .i64 7] _ _
  go_enter Tryz.func141,Tryz.ntmps141
  go_wp2
  go_ret2
  exact⟨rfl,rfl⟩
theorem patched_any(R v:Int)(hi:Bool)(r0:0≤R)(r1:R<4294967296)(w:World):Calls Tryz.prog 151 #[.int .u32 R,.int .u64 (if hi then 8 else 0),.int .u32 v] w fun e w'=>e=.returned (.int .u32 (byteF R v hi))∧w=w':=by
 obtain⟨X,hX⟩:∃X,v%256=X:=⟨_,rfl⟩
 have x0:0≤X:=by omega
 have x1:X<256:=by omega
 have HC:=Lib.hid (fun u=>cut_any v 1 u)
 rw[show cut v 1=X from hX]at HC
 have w1:IntKind.u32.wrap 255=255:=by decide
 have w2:IntKind.u32.wrap 65280=65280:=by decide
 have w3:IntKind.u32.wrap X=X:=by rw[IntKind.wrap_u32'];omega
 have w4:IntKind.u32.wrap (X*256)=X*256:=by rw[IntKind.wrap_u32'];omega
 cases hi with
 |false=>
  have b1:=bits_put0 R X r0 r1 x0 x1
  have HV:=Lib.hid (show byteF R v false=R/256*256+X by rw[←hX];rfl)
  clear hX
  show Calls _ _ #[.int .u32 R,.int .u64 0,.int .u32 v] _ _
  rw[HV.out]
  go_enter Tryz.func151,Tryz.ntmps151
  go_wp2_with (go_at_call 90;refine(HC.out _).mono ?_;rintro e w' ⟨rfl,rfl⟩)
  go_ret
  exact⟨rfl,rfl⟩
 |true=>
  have b1:=bits_put8 R X r0 r1 x0 x1
  have HV:=Lib.hid (show byteF R v true=R/65536*65536+X*256+R%256 by rw[←hX];rfl)
  clear hX
  show Calls _ _ #[.int .u32 R,.int .u64 8,.int .u32 v] _ _
  rw[HV.out]
  go_enter Tryz.func151,Tryz.ntmps151
  go_wp2_with (go_at_call 90;refine(HC.out _).mono ?_;rintro e w' ⟨rfl,rfl⟩)
  go_ret
  exact⟨rfl,rfl⟩
def rowL_u32(f:Nat→Int):List Value:=[.int .u32 (f 0),.int .u32 (f 1),.int .u32 (f 2),.int .u32 (f 3),.int .u32 (f 4),.int .u32 (f 5),.int .u32 (f 6),.int .u32 (f 7)]
theorem rowL_u32_at(f:Nat→Int)(i:Nat)(h:i<8):(rowL_u32 f)[i]?=some (.int .u32 (f i)):=by
 rcases(show i=0∨i=1∨i=2∨i=3∨i=4∨i=5∨i=6∨i=7 by omega)with rfl|rfl|rfl|rfl|rfl|rfl|rfl|rfl<;>rfl
theorem rowL_u32_put(f:Nat→Int)(i:Nat)(h:i<8)(v:Int):(rowL_u32 f).toArray.setIfInBounds i (.int .u32 v)=(rowL_u32 (putN f i v)).toArray:=by
 rcases(show i=0∨i=1∨i=2∨i=3∨i=4∨i=5∨i=6∨i=7 by omega)with rfl|rfl|rfl|rfl|rfl|rfl|rfl|rfl<;>rfl
theorem rowL_u32_one(f:Nat→Int):(rowL_u32 f).toArray.all (·.oneCell')=true:=by simp[rowL_u32,Value.oneCell']
theorem info_row_u32:(Tryz.prog.info? 23).map (·.size)=some 8:=by kernel_rfl
theorem with_u32_any(f:Nat→Int)(j:Nat)(hj:j<8)(v:Int)(w:World):Calls Tryz.prog 150 #[.agg (rowL_u32 f).toArray,.int .i64 (j:Int),.int .u32 v] w fun e w'=>e=.returned (.agg (rowL_u32 (putN f j v)).toArray)∧Below w.heap.size w w':=by
 have hj8:(j:Int)<8:=by omega
 have HP:=Lib.hid (rowL_u32_put f j hj v)
 have HO:=Lib.hid (rowL_u32_one (putN f j v))
 have HA:=Lib.hid (rowL_u32_at f j hj)
 go_enter Tryz.func150,Tryz.ntmps150
 go_upto_region 1 with fail
 obtain⟨A,hA⟩:∃A,w.heap.size+1=A:=⟨_,rfl⟩
 rw[hA]
 obtain⟨W,hW⟩:∃W,W=(w.alloc (.cells (rowL_u32 f).toArray 23)).alloc (.cells #[.int .u32 0,.int .u32 0,.int .u32 0,.int .u32 0,.int .u32 0,.int .u32 0,.int .u32 0,.int .u32 0] 23):=⟨_,rfl⟩
 rw[←hW]
 obtain⟨g1,g2,g3⟩:=heap_two hW
 rw[hA]at g2
 have hlt:w.heap.size<A:=by omega
 have c0:W.cell? ⟨w.heap.size,j,none⟩=some (.int .u32 (f j)):=(cell_block g1 j).1.trans (by simpa using HA.out)
 have f0:=(cell_block g1 j).2
 obtain⟨Y,hY⟩:∃Y,Y=W.setCell ⟨w.heap.size,j,none⟩ (.int .u32 v):=⟨_,rfl⟩
 have HYR:=Lib.hid (show Y.rangeAt w.heap.size 0 (rowL_u32 (putN f j v))by
  have h:=block_setCell g1 j (.int .u32 v)
  rw[HP.out,←hY]at h
  exact range_in13 h 0 _ rfl)
 have HYT:=Lib.hid (show Y.there A 0 8 by
  have h:=(other_setCell (Nat.ne_of_gt hlt) j (.int .u32 v)).trans g2
  rw[←hY]at h
  exact there_block h 0 8 (by decide))
 have HYB:=Lib.hid (show Below w.heap.size w Y by rw[hY];exact g3.setCell (Nat.le_refl _) _)
 have HLT:=Lib.hid (Nat.le_of_lt hlt)
 clear hW g1 g2 g3 hA hlt
 go_upto_region 2 with fail
 rw[←hY]
 clear hY c0 f0
 go_wp2_with (first
  |(refine wpList_load_mid rfl 23 (.tmp 3) rfl w.heap.size 0 rfl (rowL_u32 (putN f j v)) _ HYR.out Tryz.underlying23 rfl info_row_u32 ?_)
  |(refine store_row rfl 23 (.tmp 6) (.tmp 10) rfl A rfl (rowL_u32 (putN f j v)) rfl _ Tryz.underlying23 rfl info_row_u32 HO.out HYT.out ?_;intro Z hZ hl;have HL:=Lib.hid hl;have HZ:=Lib.hid (show Below w.heap.size w Z by rw[hZ];exact below_setCells HLT.out _ _ _ HYB.out);clear hZ hl))
 exact bodyPost_ret (results_cell rfl rfl HL.out) rfl ⟨rfl,HZ.out⟩
def rowL_u64(f:Nat→Int):List Value:=[.int .u64 (f 0),.int .u64 (f 1),.int .u64 (f 2),.int .u64 (f 3),.int .u64 (f 4),.int .u64 (f 5),.int .u64 (f 6),.int .u64 (f 7)]
theorem rowL_u64_at(f:Nat→Int)(i:Nat)(h:i<8):(rowL_u64 f)[i]?=some (.int .u64 (f i)):=by
 rcases(show i=0∨i=1∨i=2∨i=3∨i=4∨i=5∨i=6∨i=7 by omega)with rfl|rfl|rfl|rfl|rfl|rfl|rfl|rfl<;>rfl
theorem rowL_u64_put(f:Nat→Int)(i:Nat)(h:i<8)(v:Int):(rowL_u64 f).toArray.setIfInBounds i (.int .u64 v)=(rowL_u64 (putN f i v)).toArray:=by
 rcases(show i=0∨i=1∨i=2∨i=3∨i=4∨i=5∨i=6∨i=7 by omega)with rfl|rfl|rfl|rfl|rfl|rfl|rfl|rfl<;>rfl
theorem rowL_u64_one(f:Nat→Int):(rowL_u64 f).toArray.all (·.oneCell')=true:=by simp[rowL_u64,Value.oneCell']
theorem info_row_u64:(Tryz.prog.info? 27).map (·.size)=some 8:=by kernel_rfl
theorem with_u64_any(f:Nat→Int)(j:Nat)(hj:j<8)(v:Int)(w:World):Calls Tryz.prog 152 #[.agg (rowL_u64 f).toArray,.int .i64 (j:Int),.int .u64 v] w fun e w'=>e=.returned (.agg (rowL_u64 (putN f j v)).toArray)∧Below w.heap.size w w':=by
 have hj8:(j:Int)<8:=by omega
 have HP:=Lib.hid (rowL_u64_put f j hj v)
 have HO:=Lib.hid (rowL_u64_one (putN f j v))
 have HA:=Lib.hid (rowL_u64_at f j hj)
 go_enter Tryz.func152,Tryz.ntmps152
 go_upto_region 1 with fail
 obtain⟨A,hA⟩:∃A,w.heap.size+1=A:=⟨_,rfl⟩
 rw[hA]
 obtain⟨W,hW⟩:∃W,W=(w.alloc (.cells (rowL_u64 f).toArray 27)).alloc (.cells #[.int .u64 0,.int .u64 0,.int .u64 0,.int .u64 0,.int .u64 0,.int .u64 0,.int .u64 0,.int .u64 0] 27):=⟨_,rfl⟩
 rw[←hW]
 obtain⟨g1,g2,g3⟩:=heap_two hW
 rw[hA]at g2
 have hlt:w.heap.size<A:=by omega
 have c0:W.cell? ⟨w.heap.size,j,none⟩=some (.int .u64 (f j)):=(cell_block g1 j).1.trans (by simpa using HA.out)
 have f0:=(cell_block g1 j).2
 obtain⟨Y,hY⟩:∃Y,Y=W.setCell ⟨w.heap.size,j,none⟩ (.int .u64 v):=⟨_,rfl⟩
 have HYR:=Lib.hid (show Y.rangeAt w.heap.size 0 (rowL_u64 (putN f j v))by
  have h:=block_setCell g1 j (.int .u64 v)
  rw[HP.out,←hY]at h
  exact range_in13 h 0 _ rfl)
 have HYT:=Lib.hid (show Y.there A 0 8 by
  have h:=(other_setCell (Nat.ne_of_gt hlt) j (.int .u64 v)).trans g2
  rw[←hY]at h
  exact there_block h 0 8 (by decide))
 have HYB:=Lib.hid (show Below w.heap.size w Y by rw[hY];exact g3.setCell (Nat.le_refl _) _)
 have HLT:=Lib.hid (Nat.le_of_lt hlt)
 clear hW g1 g2 g3 hA hlt
 go_upto_region 2 with fail
 rw[←hY]
 clear hY c0 f0
 go_wp2_with (first
  |(refine wpList_load_mid rfl 27 (.tmp 3) rfl w.heap.size 0 rfl (rowL_u64 (putN f j v)) _ HYR.out Tryz.underlying27 rfl info_row_u64 ?_)
  |(refine store_row rfl 27 (.tmp 6) (.tmp 10) rfl A rfl (rowL_u64 (putN f j v)) rfl _ Tryz.underlying27 rfl info_row_u64 HO.out HYT.out ?_;intro Z hZ hl;have HL:=Lib.hid hl;have HZ:=Lib.hid (show Below w.heap.size w Z by rw[hZ];exact below_setCells HLT.out _ _ _ HYB.out);clear hZ hl))
 exact bodyPost_ret (results_cell rfl rfl HL.out) rfl ⟨rfl,HZ.out⟩
end Go.Proofs.YtmdncgfheeijaaaGreat
