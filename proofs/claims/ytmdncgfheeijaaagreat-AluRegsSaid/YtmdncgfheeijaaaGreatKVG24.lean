import Derived.BigQuiet
import Derived.Deep.QuietTactic
import Derived.Deep.RegionHeld3
import Derived.StillTailTactics
import Derived.Deep.DeepCutAuto
import Derived.Test.YtmdncgfheeijaaaGreatKVG10
import Derived.Test.YtmdncgfheeijaaaGreatKVG23
namespace Go.Proofs.YtmdncgfheeijaaaGreat
section
open Go.ChangeShapes Go.WideShapes Go.ChangeAt Go.RowKit
set_option maxRecDepth 100000
structure BAt (w:World) (b p:Nat) (c d:Sg):Prop where
 m:w.cell? ⟨b,0,none⟩=some (.pointer (some ⟨p,0,none⟩))
 c1:w.cell? ⟨b,1,none⟩=some (.int .u32 c.b)
 c2:w.cell? ⟨b,2,none⟩=some (.int .u32 c.z)
 c3:w.cell? ⟨b,3,none⟩=some (.bool c.r)
 c4:w.cell? ⟨b,4,none⟩=some (.bool c.q)
 c5:w.cell? ⟨b,5,none⟩=some (.bool c.x)
 d1:w.cell? ⟨b,6,none⟩=some (.int .u32 d.b)
 d2:w.cell? ⟨b,7,none⟩=some (.int .u32 d.z)
 d3:w.cell? ⟨b,8,none⟩=some (.bool d.r)
 d4:w.cell? ⟨b,9,none⟩=some (.bool d.q)
 d5:w.cell? ⟨b,10,none⟩=some (.bool d.x)
 fz:∀o,w.frozen? ⟨b,o,none⟩=false
theorem BAt.lt{w:World}{b p:Nat}{c d:Sg}(h:BAt w b p c d):b<w.heap.size:=cell_lt h.m
theorem BAt.but{G:Nat→Prop}{w w':World}{b p:Nat}{c d:Sg}(h:BAt w b p c d)(hb:But G w w')(hn:¬G b):BAt w' b p c d:=
 ⟨hb.cell h.m hn,hb.cell h.c1 hn,hb.cell h.c2 hn,hb.cell h.c3 hn,hb.cell h.c4 hn,hb.cell h.c5 hn,hb.cell h.d1 hn,hb.cell h.d2 hn,hb.cell h.d3 hn,hb.cell h.d4 hn,hb.cell h.d5 hn,fun o=>by rw[hb.frozen h.lt hn,h.fz o]⟩
theorem BAt.below{w w':World}{b p:Nat}{c d:Sg}(h:BAt w b p c d)(hb:Below w.heap.size w w'):BAt w' b p c d:=h.but (G:=fun _=>False) (But.of_below hb) (fun h=>h)
def PBus(w:World)(b:Nat)(F:Nat→Prop)(g:Int→Int)(pg:Int→Bool)(c d:Sg):Prop:=
 ∃p Fm,PMem w p Fm g pg∧BAt w b p c d∧(∀k,Fm k→F k)∧F b∧¬Fm b∧(∀k,F k→k<w.heap.size)∧c.ok∧d.ok
theorem PBus.but{F G:Nat→Prop}{w w':World}{b:Nat}{g:Int→Int}{pg:Int→Bool}{c d:Sg}(h:PBus w b F g pg c d)(hb:But G w w')(hn:∀k,F k→¬G k):PBus w' b F g pg c d:=by
 obtain⟨p,Fm,h1,h2,h3,h4,h5,h6,h7⟩:=h
 exact⟨p,Fm,h1.but hb (fun k hk=>hn k (h3 k hk)),h2.but hb (hn b h4),h3,h4,h5,fun k hk=>Nat.lt_of_lt_of_le (h6 k hk) hb.size,h7⟩
theorem PBus.lt{F:Nat→Prop}{w:World}{b:Nat}{g:Int→Int}{pg:Int→Bool}{c d:Sg}(h:PBus w b F g pg c d)(k:Nat)(hk:F k):k<w.heap.size:=by
 obtain⟨p,Fm,h1,h2,h3,h4,h5,h6,h7⟩:=h
 exact h6 k hk
theorem PBus.self{F:Nat→Prop}{w:World}{b:Nat}{g:Int→Int}{pg:Int→Bool}{c d:Sg}(h:PBus w b F g pg c d):F b:=by
 obtain⟨p,Fm,h1,h2,h3,h4,h5,h6,h7⟩:=h
 exact h4
theorem PBus.byte{F:Nat→Prop}{w:World}{b:Nat}{g:Int→Int}{pg:Int→Bool}{c d:Sg}(h:PBus w b F g pg c d)(a:Int):0≤g a∧g a<256:=by
 obtain⟨p,Fm,h1,h2,h3,h4,h5,h6,h7⟩:=h
 exact h1.byte a
theorem bnew_any(p:Nat)(F:Nat→Prop)(g:Int→Int)(pg:Int→Bool)(c d:Sg)(hc:c.ok)(hd:d.ok)(w:World)(hm:PMem w p F g pg):
 Calls Tryz.prog 37 #[.pointer (some ⟨p,0,none⟩),.agg #[.int .u32 c.b,.int .u32 c.z,.bool c.r,.bool c.q,.bool c.x],.agg #[.int .u32 d.b,.int .u32 d.z,.bool d.r,.bool d.q,.bool d.x]] w fun e w'=>∃(b:Nat) (F':Nat→Prop),e=.returned (.pointer (some ⟨b,0,none⟩))∧(∀k,F' k→F k∨w.heap.size≤k)∧PBus w' b F' g pg c d∧Below w.heap.size w w':=by
 have HM:=Lib.hid hm
 clear hm
 go_enter Tryz.func37,Tryz.ntmps37
 go_wp2
 go_ret
 have hB:=below_last (below_last (below_last (Below.refl _ w) (.cells #[.int .u32 c.b,.int .u32 c.z,.bool c.r,.bool c.q,.bool c.x] 57)) (.cells #[.int .u32 d.b,.int .u32 d.z,.bool d.r,.bool d.q,.bool d.x] 57)) (.cells #[.pointer (some ⟨p,0,none⟩),.int .u32 c.b,.int .u32 c.z,.bool c.r,.bool c.q,.bool c.x,.int .u32 d.b,.int .u32 d.z,.bool d.r,.bool d.q,.bool d.x] 121)
 refine⟨w.heap.size+2,fun k=>F k∨k=w.heap.size+2,by first|rfl|(simp;done),fun k hk=>hk.elim .inl (fun h=>.inr (by omega)),⟨p,F,HM.out.but (G:=fun _=>False) (But.of_below hB) (fun _ _ h=>h),⟨?_,?_,?_,?_,?_,?_,?_,?_,?_,?_,?_,?_⟩,fun k hk=>.inl hk,.inr rfl,fun h=>by have:=HM.out.lt _ h;omega,fun k hk=>hk.elim (fun h=>by have:=HM.out.lt _ h;simp;omega) (fun h=>by subst h;simp),hc,hd⟩,hB⟩
 all_goals simp[go_sem]
theorem bmemory_any(b:Nat)(F:Nat→Prop)(g:Int→Int)(pg:Int→Bool)(c d:Sg)(w:World)(hb:PBus w b F g pg c d):
 Calls Tryz.prog 42 #[.pointer (some ⟨b,0,none⟩)] w fun e w'=>∃(p:Nat) (Fm:Nat→Prop),e=.returned (.pointer (some ⟨p,0,none⟩))∧(∀k,Fm k→F k)∧PMem w' p Fm g pg∧Below w.heap.size w w':=by
 obtain⟨p,Fm,h1,h2,h3,h4,h5,h6,h7⟩:=hb
 have hm:=h2.m
 have H1:=Lib.hid h1
 have H3:∀k,Fm k→F k:=h3
 clear h1 h2 h3 h4 h5 h6 h7
 go_enter Tryz.func42,Tryz.ntmps42
 go_wp2
 go_ret
 exact⟨p,Fm,rfl,H3,H1.out,Below.refl _ _⟩
theorem ld_ok{d:Sg}{off size:Int}(h:ldE d off size=0):atV d.b d.z d.r d.q d.x off (widN size) 0=d.b+off∧d.b+off<4294967296:=by
 unfold ldE atE at h
 unfold atV
 cases hm:mayB d.r d.q d.x 0
 ·rw[hm]at h;simp at h
 ·cases hf:fitB d.b d.z off (widN size)
  ·rw[hm,hf]at h;simp at h
  ·exact⟨rfl,(fit_lt _ _ _ _ hf).2.1⟩
theorem st_ok{d:Sg}{off size:Int}(h:stE d off size=0):atV d.b d.z d.r d.q d.x off (widN size) 1=d.b+off∧d.b+off<4294967296:=by
 unfold stE atE at h
 unfold atV
 cases hm:mayB d.r d.q d.x 1
 ·rw[hm]at h;simp at h
 ·cases hf:fitB d.b d.z off (widN size)
  ·rw[hm,hf]at h;simp at h
  ·exact⟨rfl,(fit_lt _ _ _ _ hf).2.1⟩
theorem readN_wid(size:Int):readN (widN size)=widN size:=by
 have h0:=widN_lo size
 have h1:=widN_hi size
 unfold readN
 rw[if_neg (by omega),if_neg (by omega)]
 omega
set_option maxHeartbeats 4000000
theorem bload_any(b:Nat)(F:Nat→Prop)(g:Int→Int)(pg:Int→Bool)(c d:Sg)(off size:Int)(o0:0≤off)(o1:off<4294967296)(w:World)(hb:PBus w b F g pg c d):
 Calls Tryz.prog 144 #[.pointer (some ⟨b,0,none⟩),.int .u32 off,.int .i64 size] w fun e w'=>e=.returned (.tuple #[.int .u64 (ldV g d off size),.int .i64 (ldE d off size)])∧Below w.heap.size w w':=by
 obtain⟨p,Fm,h1,h2,h3,h4,h5,h6,h7,⟨db0,db1⟩,dz0,dz1⟩:=hb
 have m0:=h2.m
 have c1:=h2.d1
 have c2:=h2.d2
 have c3:=h2.d3
 have c4:=h2.d4
 have c5:=h2.d5
 have hby:=h1.byte
 by_cases he:ldE d off size=0
 ·obtain⟨hv,hlt⟩:=ld_ok he
  have HV:=Lib.hid (show ldV g d off size=sumN (fun i=>g (place (d.b+off) i)) (widN size)by unfold ldV;rw[if_pos he,leV_sum])
  have HE:=Lib.hid he
  have H1:=Lib.hid h1
  have H2:=Lib.hid h2
  have HY:=Lib.hid hby
  have HSV:=Lib.hid hv
  clear hv he h1 h2 h3 h4 h5 h6 h7 hby
  go_enter Tryz.func144,Tryz.ntmps144
  go_wp2_with fail
  refine(counted_any _ _).mono ?_
  rintro e w1 ⟨rfl,rfl⟩
  go_wp2_with fail
  refine(sat_any d.b d.z d.r d.q d.x off _ 0 db0 db1 dz0 dz1 o0 o1 _).mono ?_
  rintro e w1 ⟨rfl,hb1⟩
  have m1:=hb1.cell (p:=⟨b,0,none⟩) H2.out.lt
  rw[m0]at m1
  rw[HSV.out,show atE d.b d.z d.r d.q d.x off (widN size) 0=0 from HE.out]
  go_wp2_with fail
  refine(mread_any p Fm g pg (d.b+off) _ (by omega) hlt _ (H1.out.but (G:=fun _=>False) (But.of_below hb1) (fun _ _ h=>h))).mono ?_
  rintro e w2 ⟨v,rfl,hs,hb2⟩
  rw[readN_wid]at hs
  go_wp2_with fail
  refine(number_any v _ _ (widN_hi size) (fun i=>HY.out _) _ hs).mono ?_
  rintro e w3 ⟨rfl,rfl⟩
  go_wp2_with fail
  go_ret2
  exact⟨by rw[HV.out,HE.out];rfl,hb1.trans (hb2.mono hb1.size)⟩
 ·have HV:=Lib.hid (show ldV g d off size=0 by unfold ldV;rw[if_neg he])
  have hne:(ldE d off size==0)=false:=by simpa using he
  have HD:=Lib.hid (show atE d.b d.z d.r d.q d.x off (widN size) 0=ldE d off size from rfl)
  have H2:=Lib.hid h2
  clear he h1 h2 h3 h4 h5 h6 h7 hby
  go_enter Tryz.func144,Tryz.ntmps144
  go_wp2_with fail
  refine(counted_any _ _).mono ?_
  rintro e w1 ⟨rfl,rfl⟩
  go_wp2_with fail
  refine(sat_any d.b d.z d.r d.q d.x off _ 0 db0 db1 dz0 dz1 o0 o1 _).mono ?_
  rintro e w1 ⟨rfl,hb1⟩
  rw[HD.out]
  go_wp2_with fail
  go_ret2
  exact⟨by rw[HV.out];rfl,hb1⟩
theorem slice_row(k n:Nat)(hn:n≤8)(w:World):
  (Instr.sliceAt 194 (.pointer (some ⟨k,0,none⟩)) none (some (.int .i64 (n:Int))) none).run Tryz.prog w=.ok (.slice (some ⟨k,0,none⟩) n 8) w:=by
 have hA:Tryz.prog.arrayLen 194=8:=by kernel_rfl
 have h:=run_sliceAt_array_h (P:=Tryz.prog) w 194 ⟨k,0,none⟩ (by rw[hA];exact Tryz.underlying194) .i64 (n:Int) (by omega) (by rw[hA];omega)
 have hz:(sizeOf (Tryz.prog.elem 194)).run Tryz.prog w=.ok 1 w:=by kernel_rfl
 rw[h,hA]
 simp[Result.andThen,slicedAt,hz,Addr.add]
theorem bstore_any(b:Nat)(F:Nat→Prop)(g:Int→Int)(pg:Int→Bool)(c d:Sg)(off size v:Int)(o0:0≤off)(o1:off<4294967296)(v0:0≤v)(v1:v<18446744073709551616)(w:World)(hb:PBus w b F g pg c d):
 Calls Tryz.prog 142 #[.pointer (some ⟨b,0,none⟩),.int .u32 off,.int .i64 size,.int .u64 v] w fun e w'=>∃F',e=.returned (.int .i64 (stE d off size))∧(∀k,F' k→F k∨w.heap.size≤k)∧PBus w' b F' (stG g d off size v) (stP pg d off size) c d∧But F w w':=by
 have H0:=Lib.hid hb
 obtain⟨p,Fm,h1,h2,h3,h4,h5,h6,hc,⟨db0,db1⟩,dz0,dz1⟩:=hb
 have m0:=h2.m
 have c1:=h2.d1
 have c2:=h2.d2
 have c3:=h2.d3
 have c4:=h2.d4
 have c5:=h2.d5
 have H1:=Lib.hid h1
 have H2:=Lib.hid h2
 have H3:=Lib.hid h3
 have H4:=Lib.hid h4
 have H5:=Lib.hid h5
 have H6:=Lib.hid h6
 have HC:=Lib.hid hc
 clear h1 h2 h3 h4 h5 h6 hc
 by_cases he:stE d off size=0
 ·obtain⟨hv,hlt⟩:=st_ok he
  have HG:=Lib.hid (show stG g d off size v=writeG g (d.b+off) (byteOf v) (widN size)by unfold stG;rw[if_pos he])
  have HP:=Lib.hid (show stP pg d off size=writeP pg (d.b+off) (widN size)by unfold stP;rw[if_pos he])
  have HE:=Lib.hid he
  have HV:=Lib.hid hv
  have hw0:=widN_lo size
  have hw8:=widN_hi size
  clear hv he
  go_enter Tryz.func142,Tryz.ntmps142
  go_wp2_with fail
  refine(counted_any _ _).mono ?_
  rintro e w1 ⟨rfl,rfl⟩
  go_wp2_with fail
  refine(sat_any d.b d.z d.r d.q d.x off _ 1 db0 db1 dz0 dz1 o0 o1 _).mono ?_
  rintro e w1 ⟨rfl,hb1⟩
  rw[HV.out,show atE d.b d.z d.r d.q d.x off (widN size) 1=0 from HE.out]
  go_wp2_with fail
  refine(spread_any v v0 v1 _).mono ?_
  rintro e w2 ⟨rfl,hb2⟩
  rw[spreadC_8]
  have hb3:=hb1.trans (hb2.mono hb1.size)
  have B3:=Lib.hid hb3
  clear hb1 hb2 hb3
  go_upto_region 6 with(fail)
  rw[←spreadC_8]
  have hal:Below w2.heap.size w2 (w2.alloc (.cells (spreadC v 8) 194)):=below_last (Below.refl _ _) _
  have hBW:Below w.heap.size w (w2.alloc (.cells (spreadC v 8) 194)):=B3.out.trans (hal.mono B3.out.size)
  have hcells:∀i,i<8→(w2.alloc (.cells (spreadC v 8) 194)).cell? ⟨w2.heap.size,i,none⟩=some (.int .u8 (byteOf v i)):=fun i hi=>by
   have h8:i=0∨i=1∨i=2∨i=3∨i=4∨i=5∨i=6∨i=7:=by omega
   rcases h8 with rfl|rfl|rfl|rfl|rfl|rfl|rfl|rfl<;>simp[go_sem,spreadC_8]
  have hz:w2.heap.size<(w2.alloc (.cells (spreadC v 8) 194)).heap.size:=by simp
  have hsl:=fun w=>slice_row w2.heap.size (widN size) hw8 w
  have hw2:=B3.out.size
  have m1:=hBW.cell (p:=⟨b,0,none⟩) H2.out.lt
  rw[m0]at m1
  generalize w2.alloc (.cells (spreadC v 8) 194)=W at *
  have HW:=Lib.hid hBW
  have HX:=Lib.hid hcells
  clear hal hBW hcells m0 c1 c2 c3 c4 c5
  go_still_tail 7,(by kernel_rfl)
  change wpList _ _ _ _ _ W.drew
  have HW2:=Lib.hid (show Below w.heap.size w W.drew from HW.out.drew)
  have hs:Slc .u8 W.drew (.slice (some ⟨w2.heap.size,0,none⟩) (widN size) 8) (widN size) (byteOf v):=.inr ⟨_,_,rfl,hw8,fun i hi=>by rw[addr0,Nat.zero_add];exact HX.out i (by omega)⟩
  have HS:=Lib.hid hs
  generalize W.drew=V at *
  clear hs
  go_wp2_with fail
  refine(mwrite_any p Fm g pg (d.b+off) _ (widN size) (byteOf v) (by omega) hlt (by omega) (byteOf_ok v) _ (H1.out.but (G:=fun _=>False) (But.of_below HW2.out) (fun _ _ h=>h)) HS.out (fun _ k hk=>?_)).mono ?_
  ·have hk:w2.heap.size=k:=by injection hk
   intro hf
   have:=H6.out k (H3.out k hf)
   omega
  ·rintro e w3 ⟨F',rfl,hF',hm',hb'⟩
   have hbF:But F w w3:=(But.of_below (F:=F) HW2.out).trans hb' (fun i _ hi=>H3.out i hi)
   have hA:=(H2.out.below HW2.out).but hb' H5.out
   have hsz:=HW2.out.size
   have HF:=Lib.hid hF'
   have HM:=Lib.hid hm'
   clear hF' hm' hb'
   go_wp2_with fail
   go_ret
   refine⟨fun k=>F' k∨F k,by rw[HE.out];rfl,fun k hk=>hk.elim (fun h=>(HF.out k h).elim (fun h=>.inl (H3.out k h)) (fun h=>.inr (by omega))) .inl,⟨p,F',?_,hA,fun k h=>.inl h,.inr H4.out,fun h=>(HF.out b h).elim H5.out (fun h=>by have:=H2.out.lt;omega),fun k hk=>hk.elim (fun h=>HM.out.lt k h) (fun h=>Nat.lt_of_lt_of_le (H6.out k h) hbF.size),HC.out,⟨db0,db1⟩,dz0,dz1⟩,hbF⟩
   rw[HG.out,HP.out]
   exact HM.out
 ·have HV:=Lib.hid (show stG g d off size v=g by unfold stG;rw[if_neg he])
  have HP:=Lib.hid (show stP pg d off size=pg by unfold stP;rw[if_neg he])
  have hne:(stE d off size==0)=false:=by simpa using he
  have HD:=Lib.hid (show atE d.b d.z d.r d.q d.x off (widN size) 1=stE d off size from rfl)
  clear he
  go_enter Tryz.func142,Tryz.ntmps142
  go_wp2_with fail
  refine(counted_any _ _).mono ?_
  rintro e w1 ⟨rfl,rfl⟩
  go_wp2_with fail
  refine(sat_any d.b d.z d.r d.q d.x off _ 1 db0 db1 dz0 dz1 o0 o1 _).mono ?_
  rintro e w1 ⟨rfl,hb1⟩
  rw[HD.out]
  go_wp2_with fail
  go_ret
  exact⟨F,rfl,fun k h=>.inl h,by rw[HV.out,HP.out];exact H0.out.but (G:=fun _=>False) (But.of_below hb1) (fun _ _ h=>h),But.of_below hb1⟩
end
section
open Go.ChangeShapes Go.WideShapes Go.ChangeAt Go.RowKit
set_option maxRecDepth 100000
structure BIn (w0 w:World) (b:Nat) (F:Nat→Prop) (g:Int→Int) (pg:Int→Bool) (c d:Sg):Prop where
 own:∀k,F k→w0.heap.size≤k
 bus:PBus w b F g pg c d
 low:Below w0.heap.size w0 w
variable {w0 w w':World} {b p:Nat} {F:Nat→Prop} {g:Int→Int} {pg:Int→Bool} {c d:Sg}
theorem BIn.next(h:BIn w0 w b F g pg c d)(hb:Below w.heap.size w w'):BIn w0 w' b F g pg c d:=
 ⟨h.own,h.bus.but (G:=fun _=>False) (But.of_below hb) (fun _ _ h=>h),h.low.trans (hb.mono h.low.size)⟩
theorem BIn.wrote{F':Nat→Prop}{g':Int→Int}{pg':Int→Bool}{c' d':Sg}(h:BIn w0 w b F g pg c d)(hF:∀k,F' k→F k∨w.heap.size≤k)(hp:PBus w' b F' g' pg' c' d')(hb:But F w w'):BIn w0 w' b F' g' pg' c' d':=
 ⟨fun k hk=>(hF k hk).elim (h.own k) (fun q=>Nat.le_trans h.low.size q),hp,hb.below h.low h.own h.low.size⟩
end
section
open Go.ChangeShapes Go.WideShapes Go.ChangeAt Go.RowKit Go.Maps Go.Deep
set_option maxRecDepth 100000
theorem rmwrite_slc(p B:Nat)(g:Int→Int)(a:Int)(v:Value)(L:Nat)(bs:Nat→Int)(hL:L<4294967296)(w:World)(hc:w.cell? ⟨p,0,none⟩=some (.map (some B)))(hm:RefMap w B 4294967296 g)(hpB:p≠B)
  (hs:Slc .u8 w v L bs) (ho:0<L→∀k,v.ownBlock=some k→k≠B) (hb0:∀i,0≤bs i∧bs i<256):
  Calls Tryz.prog 58 #[.pointer (some ⟨p,0,none⟩),.int .u32 a,v] w fun e w'=>e=.returned (.tuple #[])∧RefMap w' B 4294967296 (writeG g a bs L)∧But (·=B) w w':=by
 by_cases h0:L=0
 ·subst h0
  have HM:=Lib.hid hm
  clear ho hm
  obtain⟨ad,cap,rfl⟩:=hs.len
  clear hs
  go_enter Tryz.func58,Tryz.ntmps58
  go_wp2_with fail
  go_loopw [6] (fun v wr=>v=.int .i64 0∧wr=w) (fun _ _=>0)
  case atStart=>exact⟨rfl,rfl⟩
  case round=>
   obtain⟨rfl,rfl⟩:=hrel
   go_wp2_with fail
   go_end0
   exact⟨rfl,HM.out,But.refl _ _⟩
 ·rcases hs with⟨_,h⟩|⟨ad,cap,rfl,hl,hcell⟩
  ·exact absurd h h0
  ·exact(rmwrite_any p B 4294967296 g a ad L cap bs (Nat.lt_trans (show 4294967296+L<8589934592 by omega) (by decide)) hL w hc hm hpB (ho (by omega) _ rfl) hcell hb0).mono fun _ _ ⟨h1,h2,h3⟩=>⟨h1,h2.few,h3⟩
def boxG(bs:Nat→Int)(L:Nat)(k:Int):Int→Int:=writeG (writeG (fun _=>0) 20480 bs L) 36864 (fillB k) 256
def boxC(L:Nat):Sg:=⟨16384,4096+L,false,false,true⟩
def boxD:Sg:=⟨36864,256,true,true,false⟩
theorem boxC_ok(L:Nat)(hL:L<2147483648):(boxC L).ok:=⟨⟨by show(0:Int)≤16384;decide,by show(16384:Int)<4294967296;decide⟩,by show(0:Int)≤4096+L;omega,by show(4096+L:Int)<4294967296;omega⟩
theorem boxD_ok:boxD.ok:=by decide
set_option maxHeartbeats 4000000
theorem box_any(v:Value)(L:Nat)(bs:Nat→Int)(k:Int)(k0:0≤k)(k1:k<4294967296)(hL:L<2147483648)(hb0:∀i,0≤bs i∧bs i<256)(w:World)(hs:Slc .u8 w v L bs):
  Calls Tryz.prog 33 #[v,.int .u32 k] w fun e w'=>∃(b:Nat) (F:Nat→Prop),e=.returned (.pointer (some ⟨b,0,none⟩))∧RBus w' b F (boxG bs L k) (boxC L) boxD∧(∀j,F j→w.heap.size≤j)∧Below w.heap.size w w':=by
 have HS:=Lib.hid hs
 have HB0:=Lib.hid hb0
 have HCO:=Lib.hid (boxC_ok L hL)
 obtain⟨ad,cap,rfl⟩:=hs.len
 have hw:IntKind.u32.wrap (L:Int)=L:=by rw[IntKind.wrap_u32];omega
 have hw2:(4096+(L:Int))%4294967296=4096+L:=by omega
 clear hs hb0
 go_enter Tryz.func33,Tryz.ntmps33
 go_wp2_with fail
 ((with_reducible refine(rmnew_any _).mono ?_);rintro e w1 ⟨p,B,rfl,hp,hB,hpB,hpl,hc,hm,b1⟩)
 have HS1:=Lib.hid (HS.out.below b1)
 have HB1:=Lib.hid b1
 have HC1:=Lib.hid hc
 have HM1:=Lib.hid hm.few
 have HPB:=Lib.hid hpB
 have HP:=Lib.hid hp
 have HB:=Lib.hid hB
 have HO:=Lib.hid (fun(h:0<L) (j:Nat) (hj:Value.ownBlock (.slice ad L cap)=some j)=>(show j≠B by have:=HS.out.own_lt h j hj;omega))
 clear b1 hc hm hpB hp hB hpl
 go_wp2_with fail
 ((with_reducible refine(rmwrite_slc p B _ 20480 _ L bs (by omega) _ HC1.out HM1.out HPB.out HS1.out HO.out HB0.out).mono ?_);rintro e w2 ⟨rfl,hm,hbt⟩)
 have HM2:=Lib.hid hm
 have HBT:=Lib.hid hbt
 have HC2:=Lib.hid (hbt.cell HC1.out HPB.out)
 clear hm hbt
 go_wp2_with fail
 ((with_reducible refine(fill256_any k k0 k1 _).mono ?_);rintro e w3 ⟨vf,rfl,hown,hsf,b3⟩)
 have HSF:=Lib.hid hsf
 have HM3:=Lib.hid (HM2.out.but (F:=fun _=>False) (But.of_below b3) (fun h=>h))
 have HC3:=Lib.hid ((But.of_below (F:=fun _=>False) b3).cell HC2.out (fun h=>h))
 have HB3:=Lib.hid b3
 have HOF:=Lib.hid (fun(_:0<256) (j:Nat) (hj:vf.ownBlock=some j)=>(show j≠B by
  rw[hown]at hj
  injection hj with hj
  obtain⟨D,h,_⟩:=HM2.out
  have:=h.lt
  omega))
 obtain⟨af,cf,rfl⟩:=hsf.len
 clear hsf b3 hown
 go_wp2_with fail
 ((with_reducible refine(rmwrite_slc p B _ 36864 _ 256 (fillB k) (by decide) _ HC3.out HM3.out HPB.out HSF.out HOF.out (fillB_ok k)).mono ?_);rintro e w4 ⟨rfl,hm,hbt⟩)
 have HM4:=Lib.hid hm
 have HC4:=Lib.hid (hbt.cell HC3.out HPB.out)
 have HB4:=Lib.hid (show Below w.heap.size w w4 from
  hbt.below ((HBT.out.below HB1.out (fun j hj=>by have:=HB.out;omega) HB1.out.size).trans (HB3.out.mono (Nat.le_trans HB1.out.size HBT.out.size))) (fun j hj=>by have:=HB.out;omega) (Nat.le_trans (Nat.le_trans HB1.out.size HBT.out.size) HB3.out.size))
 clear hm hbt
 go_wp2_with fail
 go_ret
 have hp4:p<w4.heap.size:=cell_lt HC4.out
 have hB4:B<w4.heap.size:=by obtain⟨D,h,_⟩:=HM4.out;exact h.lt
 refine⟨w4.heap.size,fun j=>j=w4.heap.size∨j=p∨j=B,rfl,⟨p,B,?_,?_,?_,fun _=>Iff.rfl,by omega,by omega,HPB.out,HCO.out,boxD_ok⟩,fun j hj=>?_,below_last HB4.out _⟩
 ·show(w4.heap.push _)[w4.heap.size]?=_
  simp
  rfl
 ·rw[World.cell?_alloc_lt _ _ _ hp4]
  exact HC4.out
 ·exact HM4.out.but (F:=fun _=>False) (But.of_below (below_last (Below.refl _ _) _)) (fun h=>h)
 ·have:=HB4.out.size
  have:=HP.out
  have:=HB.out
  rcases hj with rfl|rfl|rfl<;>omega
end
section
open Go.ChangeShapes Go.WideShapes Go.ChangeAt Go.RowKit
set_option maxRecDepth 100000
structure TwoB (w0 w:World) (b:Nat) (F:Nat→Prop) (g:Int→Int) (pg:Int→Bool) (rb:Nat) (R:Nat→Prop) (h:Int→Int) (c d:Sg):Prop where
 own:BIn w0 w b F g pg c d
 ref:RBus w rb R h c d
 rown:∀k,R k→w0.heap.size≤k
 apart:∀k,F k→¬R k
variable {w0 w w':World} {b rb:Nat} {F R:Nat→Prop} {g h:Int→Int} {pg:Int→Bool} {c d:Sg}
theorem TwoB.next(t:TwoB w0 w b F g pg rb R h c d)(hb:Below w.heap.size w w'):TwoB w0 w' b F g pg rb R h c d:=⟨t.own.next hb,t.ref.below hb,t.rown,t.apart⟩
theorem TwoB.low(t:TwoB w0 w b F g pg rb R h c d):Below w0.heap.size w0 w:=t.own.low
theorem TwoB.rwrote{h':Int→Int}(t:TwoB w0 w b F g pg rb R h c d)(hr:RBus w' rb R h' c d)(hb:But R w w'):TwoB w0 w' b F g pg rb R h' c d:=
 ⟨⟨t.own.own,t.own.bus.but hb (fun k hk hr=>t.apart k hk hr),hb.below t.own.low t.rown t.own.low.size⟩,hr,t.rown,t.apart⟩
structure TwoM (w0 w:World) (p:Nat) (F:Nat→Prop) (g:Int→Int) (pg:Int→Bool) (rb:Nat) (R:Nat→Prop) (h:Int→Int) (c d:Sg):Prop where
 own:MIn w0 w p F g pg
 ref:RBus w rb R h c d
 rown:∀k,R k→w0.heap.size≤k
 apart:∀k,F k→¬R k
theorem TwoM.next{p:Nat}(t:TwoM w0 w p F g pg rb R h c d)(hb:Below w.heap.size w w'):TwoM w0 w' p F g pg rb R h c d:=⟨t.own.next hb,t.ref.below hb,t.rown,t.apart⟩
theorem two_write{p:Nat}(t:TwoM w0 w p F g pg rb R h c d)(a:Int)(v:Value)(L:Nat)(bs:Nat→Int)(a0:0≤a)(a1:a<4294967296)(hL:L<2147483648)(hb:∀i,0≤bs i∧bs i<256)(hs:Slc .u8 w v L bs)(hv:0<L→∀k,v.ownBlock=some k→¬F k):
  Calls Tryz.prog 35 #[.pointer (some ⟨p,0,none⟩),.int .u32 a,v] w fun e w'=>∃F',e=.returned (.tuple #[])∧TwoM w0 w' p F' (writeG g a bs L) (writeP pg a L) rb R h c d:=
 (min_write t.own a v L bs a0 a1 hL hb hs hv).mono fun _ _ ⟨F',he,hm,hF,hb⟩=>⟨F',he,⟨hm,t.ref.but hb (fun k hk hf=>t.apart k hf hk),t.rown,fun k hk hr=>(hF k hk).elim (fun hf=>t.apart k hf hr) (fun hl=>by have:=t.ref.lt k hr;omega)⟩⟩
theorem two_new{p:Nat}(t:TwoM w0 w p F g pg rb R h c d):
  Calls Tryz.prog 37 #[.pointer (some ⟨p,0,none⟩),.agg (sgL c).toArray,.agg (sgL d).toArray] w fun e w'=>∃(b:Nat) (F':Nat→Prop),e=.returned (.pointer (some ⟨b,0,none⟩))∧TwoB w0 w' b F' g pg rb R h c d∧Below w.heap.size w w':=by
 have ho:=t.ref
 obtain⟨_,_,ho⟩:=ho
 exact(bnew_any p F g pg c d ho.ok.1 ho.ok.2 w t.own.mem).mono fun _ _ ⟨b,F',he,hF,hp,hb⟩=>⟨b,F',he,⟨⟨fun k hk=>(hF k hk).elim (t.own.own k) (fun q=>Nat.le_trans t.own.low.size q),hp,t.own.low.trans (hb.mono t.own.low.size)⟩,t.ref.below hb,t.rown,fun k hk hr=>(hF k hk).elim (fun hf=>t.apart k hf hr) (fun hl=>by have:=t.ref.lt k hr;omega)⟩,hb⟩
end
section
open Go.ChangeShapes Go.WideShapes Go.ChangeAt Go.RowKit
set_option maxRecDepth 100000
def staZA:Array Value:=#[.int .u32 0,.int .u32 0,.int .u32 0,.int .u32 0,.int .u32 0,.int .u32 0,.int .u32 0,.int .u32 0,.int .u32 0,.bool false,.bool false,.bool false,.bool false,.bool false,.bool false,.int .u64 0,.int .u64 0,.int .u64 0,.int .u64 0,.int .u64 0,.int .u64 0,.int .u64 0,.int .u64 0]
theorem setL_appL:∀(vs pre rest:List Value),vs.length≤rest.length→setL (pre++rest).toArray pre.length vs=(pre++vs++rest.drop vs.length).toArray
 |[],pre,rest,_=>by simp[setL]
 |v :: vs,pre,[],h=>by simp at h
 |v :: vs,pre,x :: rest,h=>by
  unfold setL
  have e:(pre++x :: rest).toArray.setIfInBounds pre.length v=(pre++[v]++rest).toArray:=by simp
  rw[e,show pre.length+1=(pre++[v]).length by simp,setL_appL vs (pre++[v]) rest (by simpa using h)]
  simp
theorem setL_all(cs:List Value){C:Array Value}(hz:cs.length=C.size):setL C 0 cs=cs.toArray:=by
 obtain⟨l⟩:=C
 have hl:cs.length=l.length:=hz
 have h:=setL_appL cs [] l (by rw[hl];exact Nat.le_refl _)
 rw[List.nil_append,List.nil_append,List.drop_eq_nil_of_le (by rw[hl];exact Nat.le_refl _),List.append_nil]at h
 exact h
structure Lab (w0 w:World) (b:Nat) (F:Nat→Prop) (g:Int→Int) (pg:Int→Bool) (rb:Nat) (R:Nat→Prop) (h:Int→Int) (c d:Sg) (l:List (Nat×List Value)):Prop where
 two:TwoB w0 w b F g pg rb R h c d
 all:∀p∈l,(∃T,w.heap[p.1]?=some (.cells p.2.toArray T (0,0)))∧(¬F p.1∧¬R p.1)
section
variable {w0 w w':World} {b rb:Nat} {F F' R:Nat→Prop} {g g' h h':Int→Int} {pg pg':Int→Bool} {c d:Sg} {l:List (Nat×List Value)}
theorem Lab.start(t:TwoB w0 w b F g pg rb R h c d):Lab w0 w b F g pg rb R h c d []:=⟨t,fun p hp=>by cases hp⟩
theorem Lab.at_(t:Lab w0 w b F g pg rb R h c d l)(B:Nat)(cs:List Value)(hm:(B,cs)∈l):w.rangeAt B 0 cs:=by
 obtain⟨⟨T,h1⟩,_⟩:=t.all _ hm
 exact range_in13 h1 0 cs (by simp)
theorem Lab.lt(t:Lab w0 w b F g pg rb R h c d l)(B:Nat)(cs:List Value)(hm:(B,cs)∈l):B<w.heap.size:=by
 obtain⟨⟨T,h1⟩,_⟩:=t.all _ hm
 exact(Array.getElem?_eq_some_iff.1 h1).1
theorem Lab.there(t:Lab w0 w b F g pg rb R h c d l)(B:Nat)(cs:List Value)(hm:(B,cs)∈l):w.there B 0 cs.length:=by
 obtain⟨⟨T,h1⟩,_⟩:=t.all _ hm
 exact there_block h1 0 _ (by simp)
theorem Lab.low(t:Lab w0 w b F g pg rb R h c d l):Below w0.heap.size w0 w:=t.two.own.low
theorem Lab.next(t:Lab w0 w b F g pg rb R h c d l)(hb:Below w.heap.size w w'):Lab w0 w' b F g pg rb R h c d l:=
 ⟨t.two.next hb,fun p hp=>let ⟨⟨T,h1⟩,h2⟩:=t.all p hp;⟨⟨T,(hb.block _ (Array.getElem?_eq_some_iff.1 h1).1).trans h1⟩,h2⟩⟩
theorem Lab.did(t:Lab w0 w b F g pg rb R h c d l)(hF:∀k,F' k→F k∨w.heap.size≤k)(hp:PBus w' b F' g' pg' c d)(hb:But F w w'):Lab w0 w' b F' g' pg' rb R h c d l:=
 ⟨⟨t.two.own.wrote hF hp hb,t.two.ref.but hb (fun k hk hf=>t.two.apart k hf hk),t.two.rown,fun k hk hr=>(hF k hk).elim (fun hf=>t.two.apart k hf hr) (fun hl=>by have:=t.two.ref.lt k hr;omega)⟩,
  fun p hq=>let ⟨⟨T,h1⟩,h2⟩:=t.all p hq;have hl:=(Array.getElem?_eq_some_iff.1 h1).1;⟨⟨T,(hb.block _ hl h2.1).trans h1⟩,⟨fun hf=>(hF _ hf).elim h2.1 (fun hl2=>by omega),h2.2⟩⟩⟩
theorem Lab.ruled(t:Lab w0 w b F g pg rb R h c d l)(hr:RBus w' rb R h' c d)(hb:But R w w'):Lab w0 w' b F g pg rb R h' c d l:=
 ⟨t.two.rwrote hr hb,fun p hq=>let ⟨⟨T,h1⟩,h2⟩:=t.all p hq;⟨⟨T,(hb.block _ (Array.getElem?_eq_some_iff.1 h1).1 h2.2).trans h1⟩,h2⟩⟩
theorem Lab.put(t:Lab w0 w b F g pg rb R h c d l)(C:Array Value)(T:TypeId)(cs:List Value)(hC:cs.length=C.size)(B:Nat)(hB:B=w.heap.size)(Y:World)(hY:Y=(w.alloc (.cells C T)).setCells B 0 cs):Lab w0 Y b F g pg rb R h c d ((B,cs) :: l):=by
 subst hB hY
 have hb:Below w.heap.size w ((w.alloc (.cells C T)).setCells w.heap.size 0 cs):=below_setCells (Nat.le_refl _) _ _ _ (below_last (Below.refl _ _) _)
 have hn:=t.next hb
 refine⟨hn.two,fun p hp=>?_⟩
 rcases List.mem_cons.1 hp with rfl|hp
 ·refine⟨⟨T,?_⟩,fun hf=>by have:=t.two.own.bus.lt _ hf;simp at this,fun hr=>by have:=t.two.ref.lt _ hr;simp at this⟩
  have h:=block_setCells (T:=T) cs 0 (w.alloc (.cells C T)) C (by show(w.heap.push _)[w.heap.size]?=_;simp)
  rw[setL_all cs hC]at h
  exact h
 ·exact hn.all p hp
theorem Lab.lit(t:Lab w0 w b F g pg rb R h c d l)(cs:List Value)(T:TypeId)(B:Nat)(hB:B=w.heap.size)(Y:World)(hY:Y=w.alloc (.cells cs.toArray T)):Lab w0 Y b F g pg rb R h c d ((B,cs) :: l):=by
 subst hB hY
 have hn:=t.next (below_last (Below.refl _ _) (.cells cs.toArray T))
 refine⟨hn.two,fun p hp=>?_⟩
 rcases List.mem_cons.1 hp with rfl|hp
 ·exact⟨⟨T,by show(w.heap.push _)[w.heap.size]?=_;simp⟩,fun hf=>by have:=t.two.own.bus.lt _ hf;simp at this,fun hr=>by have:=t.two.ref.lt _ hr;simp at this⟩
 ·exact hn.all p hp
theorem Lab.old(t:Lab w0 w b F g pg rb R h c d l)(B:Nat)(cs:List Value)(T:TypeId)(hr:w0.heap[B]?=some (.cells cs.toArray T (0,0))):Lab w0 w b F g pg rb R h c d ((B,cs) :: l):=
 ⟨t.two,fun p hp=>by
  have hB:=(Array.getElem?_eq_some_iff.1 hr).1
  rcases List.mem_cons.1 hp with rfl|hp
  ·exact⟨⟨T,(t.low.block _ hB).trans hr⟩,fun hf=>by have:=t.two.own.own _ hf;simp at this;omega,fun hr=>by have:=t.two.rown _ hr;simp at this;omega⟩
  ·exact t.all p hp⟩
end
end
end Go.Proofs.YtmdncgfheeijaaaGreat
