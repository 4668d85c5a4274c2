import Derived.Laws.IdiomStrings
import Derived.Laws.AppendOwn
import Derived.Test.YtmdncgfheeijaaaGreatKVG25
namespace Go.Proofs.YtmdncgfheeijaaaGreat
section
open Go.ChangeShapes Go.WideShapes Go.ChangeAt Go.RowKit
set_option maxRecDepth 100000
def plN(i:Nat):Nat:=[0,2,6,7,10,11].getD i 0
def bitB(v:Int)(i:Nat):Bool:=v/2^plN i%2==1
theorem and1w(a:Int)(h0:0≤a)(h1:a<4294967296):bits .and .u32 a 1=a%2:=by
 rw[u32_and a 1 h0 h1 (by decide) (by decide)]
 have h:a.toNat &&& (1:Int).toNat=a.toNat%2:=Nat.and_two_pow_sub_one_eq_mod a.toNat 1
 rw[h]
 omega
def plA:Array Value:=#[.int .i64 0,.int .i64 2,.int .i64 6,.int .i64 7,.int .i64 10,.int .i64 11]
set_option maxHeartbeats 4000000
theorem rplaces_any(w:World):Calls Tryz.prog 117 #[] w fun e w'=>e=.returned (.slice (some ⟨w.heap.size,0,none⟩) 6 6)∧w'=w.alloc (.cells plA 3):=by
 go_enter Tryz.func117,Tryz.ntmps117
 go_wp2
 go_ret
 exact⟨rfl,rfl⟩
theorem ron_any(v:Int)(v0:0≤v)(v1:v<4294967296)(i:Nat)(hi:i<6)(w:World):Calls Tryz.prog 83 #[.int .u32 v,.int .i64 i] w fun e w'=>e=.returned (.bool (bitB v i))∧Below w.heap.size w w':=by
 have hc:∀k,(w.alloc (.cells plA 3)).cell? ⟨w.heap.size,k,none⟩=plA[k]?:=fun k=>World.cell?_alloc_new _ _ _ _
 have HC:=Lib.hid hc
 clear hc
 rcases(show i=0∨i=1∨i=2∨i=3∨i=4∨i=5 by omega)with rfl|rfl|rfl|rfl|rfl|rfl
 ·have hc:=HC.out 0
  have a1:=and1w (v) (by omega) (by omega)
  have HB:=Lib.hid (show bitB v 0=(v%2==1)by unfold bitB;rw[show(2:Int)^plN 0=1 from rfl];rw[Int.ediv_one])
  go_enter Tryz.func83,Tryz.ntmps83
  go_wp2_with fail
  ((with_reducible refine(rplaces_any _).mono ?_);rintro e w' ⟨rfl,rfl⟩)
  unfold plA at hc ⊢
  go_wp2_with fail
  go_ret
  exact⟨by rw[HB.out];rfl,below_last (Below.refl _ _) _⟩
 ·have hc:=HC.out 1
  have a1:=and1w (v/4) (by omega) (by omega)
  have HB:=Lib.hid (show bitB v 1=(v/4%2==1)by unfold bitB;rw[show(2:Int)^plN 1=4 from rfl])
  go_enter Tryz.func83,Tryz.ntmps83
  go_wp2_with fail
  ((with_reducible refine(rplaces_any _).mono ?_);rintro e w' ⟨rfl,rfl⟩)
  unfold plA at hc ⊢
  go_wp2_with fail
  go_ret
  exact⟨by rw[HB.out];rfl,below_last (Below.refl _ _) _⟩
 ·have hc:=HC.out 2
  have a1:=and1w (v/64) (by omega) (by omega)
  have HB:=Lib.hid (show bitB v 2=(v/64%2==1)by unfold bitB;rw[show(2:Int)^plN 2=64 from rfl])
  go_enter Tryz.func83,Tryz.ntmps83
  go_wp2_with fail
  ((with_reducible refine(rplaces_any _).mono ?_);rintro e w' ⟨rfl,rfl⟩)
  unfold plA at hc ⊢
  go_wp2_with fail
  go_ret
  exact⟨by rw[HB.out];rfl,below_last (Below.refl _ _) _⟩
 ·have hc:=HC.out 3
  have a1:=and1w (v/128) (by omega) (by omega)
  have HB:=Lib.hid (show bitB v 3=(v/128%2==1)by unfold bitB;rw[show(2:Int)^plN 3=128 from rfl])
  go_enter Tryz.func83,Tryz.ntmps83
  go_wp2_with fail
  ((with_reducible refine(rplaces_any _).mono ?_);rintro e w' ⟨rfl,rfl⟩)
  unfold plA at hc ⊢
  go_wp2_with fail
  go_ret
  exact⟨by rw[HB.out];rfl,below_last (Below.refl _ _) _⟩
 ·have hc:=HC.out 4
  have a1:=and1w (v/1024) (by omega) (by omega)
  have HB:=Lib.hid (show bitB v 4=(v/1024%2==1)by unfold bitB;rw[show(2:Int)^plN 4=1024 from rfl])
  go_enter Tryz.func83,Tryz.ntmps83
  go_wp2_with fail
  ((with_reducible refine(rplaces_any _).mono ?_);rintro e w' ⟨rfl,rfl⟩)
  unfold plA at hc ⊢
  go_wp2_with fail
  go_ret
  exact⟨by rw[HB.out];rfl,below_last (Below.refl _ _) _⟩
 ·have hc:=HC.out 5
  have a1:=and1w (v/2048) (by omega) (by omega)
  have HB:=Lib.hid (show bitB v 5=(v/2048%2==1)by unfold bitB;rw[show(2:Int)^plN 5=2048 from rfl])
  go_enter Tryz.func83,Tryz.ntmps83
  go_wp2_with fail
  ((with_reducible refine(rplaces_any _).mono ?_);rintro e w' ⟨rfl,rfl⟩)
  unfold plA at hc ⊢
  go_wp2_with fail
  go_ret
  exact⟨by rw[HB.out];rfl,below_last (Below.refl _ _) _⟩
theorem heap_0f(w:World)(o:Obj):(w.alloc o).heap[w.heap.size]?=some o:=by show(w.heap.push _)[w.heap.size]?=_;simp
theorem info_fl:(Tryz.prog.info? 25).map (·.size)=some 6:=by kernel_rfl
set_option maxHeartbeats 8000000
theorem rfrom13_any(v:Int)(v0:0≤v)(v1:v<4294967296)(w:World):Calls Tryz.prog 56 #[.int .u32 v] w fun e w'=>e=.returned (.agg #[.bool (bitB v 0),.bool (bitB v 1),.bool (bitB v 2),.bool (bitB v 3),.bool (bitB v 5),.bool (bitB v 4)])∧Below w.heap.size w w':=by
 have H0:=Lib.hid (show ∀w,Calls Tryz.prog 83 #[.int .u32 v,.int .i64 0] w fun e w'=>e=.returned (.bool (bitB v 0))∧Below w.heap.size w w' from fun w=>ron_any v v0 v1 0 (by decide) w)
 have H1:=Lib.hid (show ∀w,Calls Tryz.prog 83 #[.int .u32 v,.int .i64 1] w fun e w'=>e=.returned (.bool (bitB v 1))∧Below w.heap.size w w' from fun w=>ron_any v v0 v1 1 (by decide) w)
 have H2:=Lib.hid (show ∀w,Calls Tryz.prog 83 #[.int .u32 v,.int .i64 2] w fun e w'=>e=.returned (.bool (bitB v 2))∧Below w.heap.size w w' from fun w=>ron_any v v0 v1 2 (by decide) w)
 have H3:=Lib.hid (show ∀w,Calls Tryz.prog 83 #[.int .u32 v,.int .i64 3] w fun e w'=>e=.returned (.bool (bitB v 3))∧Below w.heap.size w w' from fun w=>ron_any v v0 v1 3 (by decide) w)
 have H4:=Lib.hid (show ∀w,Calls Tryz.prog 83 #[.int .u32 v,.int .i64 4] w fun e w'=>e=.returned (.bool (bitB v 4))∧Below w.heap.size w w' from fun w=>ron_any v v0 v1 4 (by decide) w)
 have H5:=Lib.hid (show ∀w,Calls Tryz.prog 83 #[.int .u32 v,.int .i64 5] w fun e w'=>e=.returned (.bool (bitB v 5))∧Below w.heap.size w w' from fun w=>ron_any v v0 v1 5 (by decide) w)
 have HK:=Lib.hid (show(w.alloc (.cells #[.bool false,.bool false,.bool false,.bool false,.bool false,.bool false] 25)).heap[w.heap.size]?=_ from heap_0f w _)
 have HB:=Lib.hid (below_last (Below.refl w.heap.size w) (.cells #[.bool false,.bool false,.bool false,.bool false,.bool false,.bool false] 25))
 go_enter Tryz.func56,Tryz.ntmps56
 go_wp2_with fail
 ((with_reducible refine(H0.out _).mono ?_);rintro e w1 ⟨rfl,b0⟩)
 have HK:=Lib.hid ((b0.block _ (Array.getElem?_eq_some_iff.1 HK.out).1).trans HK.out)
 have HB:=Lib.hid (HB.out.trans (b0.mono HB.out.size))
 clear b0
 go_wp2_with fail
 ((with_reducible refine(H1.out _).mono ?_);rintro e w2 ⟨rfl,b1⟩)
 have HK:=Lib.hid ((b1.block _ (Array.getElem?_eq_some_iff.1 HK.out).1).trans HK.out)
 have HB:=Lib.hid (HB.out.trans (b1.mono HB.out.size))
 clear b1
 go_wp2_with fail
 ((with_reducible refine(H2.out _).mono ?_);rintro e w3 ⟨rfl,b2⟩)
 have HK:=Lib.hid ((b2.block _ (Array.getElem?_eq_some_iff.1 HK.out).1).trans HK.out)
 have HB:=Lib.hid (HB.out.trans (b2.mono HB.out.size))
 clear b2
 go_wp2_with fail
 ((with_reducible refine(H3.out _).mono ?_);rintro e w4 ⟨rfl,b3⟩)
 have HK:=Lib.hid ((b3.block _ (Array.getElem?_eq_some_iff.1 HK.out).1).trans HK.out)
 have HB:=Lib.hid (HB.out.trans (b3.mono HB.out.size))
 clear b3
 go_wp2_with fail
 ((with_reducible refine(H4.out _).mono ?_);rintro e w5 ⟨rfl,b4⟩)
 have HK:=Lib.hid ((b4.block _ (Array.getElem?_eq_some_iff.1 HK.out).1).trans HK.out)
 have HB:=Lib.hid (HB.out.trans (b4.mono HB.out.size))
 clear b4
 go_wp2_with fail
 ((with_reducible refine(H5.out _).mono ?_);rintro e w6 ⟨rfl,b5⟩)
 have HK:=Lib.hid ((b5.block _ (Array.getElem?_eq_some_iff.1 HK.out).1).trans HK.out)
 have HB:=Lib.hid (HB.out.trans (b5.mono HB.out.size))
 clear b5
 have HT:=Lib.hid (there_block HK.out 0 6 (Nat.le_refl 6))
 go_wp2_with (refine store_row rfl 25 (.tmp 2) (.tmp 15) rfl w.heap.size rfl [.bool (bitB v 0),.bool (bitB v 1),.bool (bitB v 2),.bool (bitB v 3),.bool (bitB v 5),.bool (bitB v 4)] rfl _ Tryz.underlying25 rfl info_fl (by simp[Value.oneCell']) HT.out ?_;intro Y hY hl;have HL:=Lib.hid hl;have HY:=Lib.hid (show Below w.heap.size w Y by rw[hY];exact below_setCells (Nat.le_refl _) _ _ _ HB.out);clear hY hl)
 refine bodyPost_ret (results_cell rfl rfl HL.out) rfl ⟨rfl,HY.out⟩
end
section
open Go.ChangeShapes Go.WideShapes Go.ChangeAt Go.RowKit
set_option maxRecDepth 100000
theorem flags_fin:∀k:Fin 256,0≤bits .or .u32 ((k:Nat)*37:Int) (bits .and .u8 ((k:Nat):Int) 8%4294967296*128%4294967296)∧bits .or .u32 ((k:Nat)*37:Int) (bits .and .u8 ((k:Nat):Int) 8%4294967296*128%4294967296)<4294967296:=by decide +kernel
set_option maxHeartbeats 4000000
theorem seatflags_any(k:Int)(k0:0≤k)(k1:k<256)(w:World):Calls Tryz.prog 30 #[.int .u8 k] w fun e w'=>∃c p z s o d:Bool,e=.returned (.agg #[.bool c,.bool p,.bool z,.bool s,.bool o,.bool d])∧Below w.heap.size w w':=by
 obtain⟨j,rfl⟩:=Int.eq_ofNat_of_zero_le k0
 have hf:=flags_fin ⟨j,by omega⟩
 obtain⟨V,hV⟩:∃V,bits .or .u32 ((j:Int)*37) (bits .and .u8 (j:Int) 8%4294967296*128%4294967296)=V:=⟨_,rfl⟩
 have hf:0≤V∧V<4294967296:=by rw[←hV];exact hf
 have HF:=Lib.hid (fun u=>rfrom13_any V hf.1 hf.2 u)
 go_enter Tryz.func30,Tryz.ntmps30
 go_upto_region 1 with fail
 obtain⟨W,hW⟩:∃W,W=w.alloc (.cells #[.bool false,.bool false,.bool false,.bool false,.bool false,.bool false] 25):=⟨_,rfl⟩
 rw[←hW]
 have HB:=Lib.hid (show W.heap[w.heap.size]?=some (.cells #[.bool false,.bool false,.bool false,.bool false,.bool false,.bool false] 25 (0,0))by rw[hW];exact heap_0f w _)
 have HBE:=Lib.hid (show Below w.heap.size w W by rw[hW];exact below_last (Below.refl _ _) _)
 clear hW
 go_wp2_with fail
 ((with_reducible refine(HF.out _).mono ?_);rintro e w1 ⟨rfl,b1⟩)
 have HT:=Lib.hid (there_block ((b1.block _ (Array.getElem?_eq_some_iff.1 HB.out).1).trans HB.out) 0 6 (Nat.le_refl 6))
 have HB1:=Lib.hid (HBE.out.trans (b1.mono HBE.out.size))
 clear b1
 go_wp2_with (refine store_row rfl 25 (.tmp 2) (.tmp 11) rfl w.heap.size rfl [.bool (bitB V 0),.bool (bitB V 1),.bool (bitB V 2),.bool (bitB V 3),.bool (bitB V 5),.bool (bitB V 4)] rfl _ Tryz.underlying25 rfl info_fl (by simp[Value.oneCell']) HT.out ?_;intro Y hY hl;have HL:=Lib.hid hl;have HY:=Lib.hid (show Below w.heap.size w Y by rw[hY];exact below_setCells (Nat.le_refl _) _ _ _ HB1.out);clear hY hl)
 exact bodyPost_ret (results_cell rfl rfl HL.out) rfl ⟨_,_,_,_,_,_,rfl,HY.out⟩
structure QI (w:World) (B:Nat) (r x:Nat→Int) (u:World):Prop where
 br:u.heap[w.heap.size]?=some (.cells (rowL_u32 r).toArray 23 (0,0))
 bx:u.heap[w.heap.size+1]?=some (.cells (rowL_u64 x).toArray 27 (0,0))
 res:∃C,u.heap[w.heap.size+2]?=some (.cells C 29 (0,0))∧C.size=23
 st:∃t,u.heap[B]?=some (.cells (staL t).toArray 29 (0,0))∧StaOk t
 lt:w.heap.size+3≤B
 bel:Below w.heap.size w u
theorem QI.below{w u u':World}{B:Nat}{r x:Nat→Int}(h:QI w B r x u)(hb:Below u.heap.size u u'):QI w B r x u':=by
 have k:∀{j:Nat} {o:Obj},u.heap[j]?=some o→u'.heap[j]?=some o:=fun{j o} hj=>(hb.block j (Array.getElem?_eq_some_iff.1 hj).1).trans hj
 obtain⟨C,hC,hz⟩:=h.res
 obtain⟨t,ht,hok⟩:=h.st
 exact⟨k h.br,k h.bx,⟨C,k hC,hz⟩,⟨t,k ht,hok⟩,h.lt,h.bel.trans (hb.mono h.bel.size)⟩
theorem QI.put{w u:World}{B:Nat}{r x:Nat→Int}(h:QI w B r x u)(i:Nat)(v:Value)(hp:∀t,StaOk t→∃t',(staL t).toArray.setIfInBounds i v=(staL t').toArray∧StaOk t'):QI w B r x (u.setCell ⟨B,i,none⟩ v):=by
 have hlt:=h.lt
 have k:∀{j:Nat} {o:Obj},j≠B→u.heap[j]?=some o→(u.setCell ⟨B,i,none⟩ v).heap[j]?=some o:=fun{j o} hn hj=>(other_setCell hn i v).trans hj
 obtain⟨C,hC,hz⟩:=h.res
 obtain⟨t,ht,hok⟩:=h.st
 obtain⟨t',e,hok'⟩:=hp t hok
 exact⟨k (by omega) h.br,k (by omega) h.bx,⟨C,k (by omega) hC,hz⟩,⟨t',by rw[←e];exact block_setCell ht i v,hok'⟩,h.lt,h.bel.setCell (by show w.heap.size≤B;omega) v⟩
theorem put_r(i:Nat)(hi:i<8)(d:Int)(hd:0≤d∧d<4294967296)(t:Sta)(ht:StaOk t):∃t',(staL t).toArray.setIfInBounds i (.int .u32 d)=(staL t').toArray∧StaOk t':=
 ⟨_,sta_put t i hi d,put_ok ht.r hd i,ht.x,ht.ip⟩
theorem put_x(i:Nat)(hi:i<8)(d:Int)(hd:0≤d∧d<18446744073709551616)(t:Sta)(ht:StaOk t):∃t',(staL t).toArray.setIfInBounds (15+i) (.int .u64 d)=(staL t').toArray∧StaOk t':=
 ⟨_,sta_putX t i hi d,ht.r,put_ok ht.x hd i,ht.ip⟩
def QV(w:World)(B i:Nat)(r x:Nat→Int):Nat→Value→World→Prop
 |0,v,_=>v=.int .i64 i
 |1,v,_=>v=.int .i64 i
 |2,v,_=>v=.int .i64 i
 |3,v,_=>v=.pointer (some ⟨w.heap.size,i,none⟩)
 |4,v,_=>v=.int .u32 (r i)
 |5,v,_=>∃d:Int,v=.int .u32 d∧0≤d∧d<4294967296
 |6,v,_=>v=.int .i64 i
 |7,v,_=>v=.pointer (some ⟨w.heap.size+1,i,none⟩)
 |8,v,_=>v=.int .u64 (x i)
 |9,v,_=>∃d:Int,v=.int .u64 d∧0≤d∧d<18446744073709551616
 |10,v,_=>v=.pointer (some ⟨B,0,none⟩)
 |11,v,_=>v=.pointer (some ⟨B,i,none⟩)
 |13,v,_=>v=.pointer (some ⟨B,15,none⟩)
 |14,v,_=>v=.pointer (some ⟨B,15+i,none⟩)
 |_,_,_=>True
theorem qv_stays{w:World}{B i:Nat}{r x:Nat→Int}(n:Nat)(v:Value)(u u':World)(h:QV w B i r x n v u)(_:True):QV w B i r x n v u':=by
 unfold QV at h ⊢
 split at h
 all_goals exact h
end
section
open Go.ChangeShapes Go.WideShapes Go.ChangeAt Go.RowKit Go.Maps Go.Deep
set_option maxRecDepth 100000
def staQ(c p z s o d:Bool):Sta:=⟨fun _=>0,0,c,p,z,s,o,d,fun _=>0⟩
theorem staQ_ok(c p z s o d:Bool):StaOk (staQ c p z s o d):=⟨fun _ _=>⟨Int.le_refl _,(by decide:(0:Int)<4294967296)⟩,fun _ _=>⟨Int.le_refl _,(by decide:(0:Int)<18446744073709551616)⟩,⟨Int.le_refl _,(by decide:(0:Int)<4294967296)⟩⟩
theorem qi_new{w W w1 Y:World}{r x:Nat→Int}{t0 q:Sta}(h1:W.heap[w.heap.size]?=some (.cells (rowL_u32 r).toArray 23 (0,0)))(h2:W.heap[w.heap.size+1]?=some (.cells (rowL_u64 x).toArray 27 (0,0)))(h3:W.heap[w.heap.size+2]?=some (.cells (staL t0).toArray 29 (0,0)))(hb:Below w.heap.size w W)(b1:Below W.heap.size W w1)(hY:Y=(w1.alloc (.cells (staL t0).toArray 29)).setCells w1.heap.size 0 (staL q))(hq:StaOk q):QI w w1.heap.size r x Y:=by
 have l3:=(Array.getElem?_eq_some_iff.1 h3).1
 have l1:=b1.size
 have b2:Below W.heap.size W Y:=by
  rw[hY]
  exact below_setCells l1 _ _ _ (below_last b1 _)
 have k:∀{j:Nat} {o:Obj},W.heap[j]?=some o→Y.heap[j]?=some o:=fun{j o} hj=>(b2.block j (Array.getElem?_eq_some_iff.1 hj).1).trans hj
 refine⟨k h1,k h2,⟨_,k h3,rfl⟩,⟨q,?_,hq⟩,by omega,hb.trans (b2.mono hb.size)⟩
 rw[hY]
 have h:=block_setCells (T:=29) (staL q) 0 _ (staL t0).toArray (heap_0f w1 (.cells (staL t0).toArray 29))
 rw[setL_whole23 q t0]at h
 exact h
set_option maxHeartbeats 8000000
theorem seatstate_any(r x:Nat→Int)(hr:∀i,i<8→0≤r i∧r i<4294967296)(hx:∀i,i<8→0≤x i∧x i<18446744073709551616)(k z:Int)(k0:0≤k)(k1:k<256)(z0:0≤z)(z1:z<256)(w:World):
  Calls Tryz.prog 14 #[.agg (rowL_u32 r).toArray,.agg (rowL_u64 x).toArray,.int .u8 k,.int .u8 z] w fun e w'=>∃t,e=.returned (.agg (staL t).toArray)∧StaOk t∧Below w.heap.size w w':=by
 have HF:=Lib.hid (fun u=>seatflags_any k k0 k1 u)
 have HR:=Lib.hid hr
 have HX:=Lib.hid hx
 have HZ:=Lib.hid (And.intro z0 z1)
 clear hr hx k0 k1 z0 z1
 go_enter Tryz.func14,Tryz.ntmps14
 obtain⟨W,hW⟩:∃W,W=((w.alloc (.cells (rowL_u32 r).toArray 23)).alloc (.cells (rowL_u64 x).toArray 27)).alloc (.cells (staL (staQ false false false false false false)).toArray 29):=⟨_,rfl⟩
 have HW:=Lib.hid (show _∧_ from heap_three hW)
 go_upto_region 1 with fail
 show Code.wp _ _ _ _ (((w.alloc (.cells (rowL_u32 r).toArray 23)).alloc (.cells (rowL_u64 x).toArray 27)).alloc (.cells (staL (staQ false false false false false false)).toArray 29))
 rw[←hW]
 clear hW
 go_wp2_with fail
 ((with_reducible refine(HF.out _).mono ?_);rintro e w1 ⟨fc,fp,fz,fs,fo,fd,rfl,b1⟩)
 have HT:=Lib.hid (there_alloc_new w1 (staL (staQ false false false false false false)).toArray 29 23 (Nat.le_refl _))
 have HB1:=Lib.hid b1
 clear b1
 go_upto_region 2 with(refine store_row rfl 29 (.tmp 9) (.tmp 13) rfl w1.heap.size rfl (staL (staQ fc fp fz fs fo fd)) rfl _ Tryz.underlying29 rfl info_sta (sta_one _) HT.out ?_;intro Y hY hl;have HQ:=Lib.hid (qi_new HW.out.1 HW.out.2.1 HW.out.2.2.1 HW.out.2.2.2 HB1.out hY (staQ_ok _ _ _ _ _ _));clear hY hl)
 obtain⟨B,hB⟩:∃B,w1.heap.size=B:=⟨_,rfl⟩
 rw[hB]at HQ ⊢
 clear HW HT HB1 hB
 go_wp2_with fail
 go_loopw [10] (fun v wr=>∃i:Nat,i≤8∧v=.int .i64 i∧QI w B r x wr) (fun v _=>8-(intOf v).toNat)
 case atStart=>exact⟨0,by omega,rfl,HQ.out⟩
 case round=>
  obtain⟨i,hi,rfl,hq⟩:=hrel
  obtain⟨wo,rfl⟩:∃wo:World,wo=wr:=⟨_,rfl⟩
  by_cases hlt:i<8
  ·have hi8:(i:Int)<8:=by omega
   have hd:decide ((i:Int)<8)=true:=decide_eq_true hi8
   have HI:=Lib.hid hq
   clear hq HQ
   go_wp2_with fail
   refine wp_region_vals (by kernel_rfl) (fun n=>n==12 || n==15) (by kernel_rfl) (QI w B r x) (fun _ _=>True) (QV w B i r x) qv_stays (fun _=>trivial) (HI.out.below ((Below.refl _ _).drew)) ?_ ?_
   ·intro n op c u ho hinv hsz hbase hdep
    have hn:n<16:=(Array.getElem?_eq_some_iff.1 ho).1
    have b4:c.tmps.getD 4 undef=.pointer (some ⟨w.heap.size,0,none⟩):=hbase 4 (by kernel_rfl)
    have b5:c.tmps.getD 5 undef=.pointer (some ⟨w.heap.size+1,0,none⟩):=hbase 5 (by kernel_rfl)
    have b9:c.tmps.getD 9 undef=.pointer (some ⟨B,0,none⟩):=hbase 9 (by kernel_rfl)
    have b10:c.tmps.getD 10 undef=.int .i64 i:=hbase 10 (by kernel_rfl)
    clear hbase hsz hd
    rcases(show n=0∨n=1∨n=2∨n=3∨n=4∨n=5∨n=6∨n=7∨n=8∨n=9∨n=10∨n=11∨n=12∨n=13∨n=14∨n=15 by omega)with rfl|rfl|rfl|rfl|rfl|rfl|rfl|rfl|rfl|rfl|rfl|rfl|rfl|rfl|rfl|rfl
    ·cases ho
     exact wp_val (by simp[execOp,Act.eval,b10,go_sem]<;>rfl) ⟨_,rfl,hinv,trivial,rfl⟩
    ·cases ho
     exact wp_val (by simp[execOp,Act.eval,b10,go_sem]<;>rfl) ⟨_,rfl,hinv,trivial,rfl⟩
    ·cases ho
     exact wp_val (by simp[execOp,Act.eval,b10,go_sem]<;>rfl) ⟨_,rfl,hinv,trivial,rfl⟩
    ·cases ho
     have e2:c.tmps.getD 20 undef=.int .i64 i:=hdep 2 (by kernel_rfl)
     exact wp_val (by simp[execOp,Act.eval,b4,e2,hi8,go_sem]<;>rfl) ⟨_,rfl,hinv,trivial,rfl⟩
    ·cases ho
     have e3:c.tmps.getD 21 undef=.pointer (some ⟨w.heap.size,i,none⟩):=hdep 3 (by kernel_rfl)
     have hc:u.cell? ⟨w.heap.size,i,none⟩=some (.int .u32 (r i)):=(cell_block hinv.br i).1.trans (by simpa using rowL_u32_at r i hlt)
     exact wp_val (by simp[execOp,Act.eval,e3,hc,go_sem]<;>rfl) ⟨_,rfl,hinv,trivial,rfl⟩
    ·cases ho
     have e4:c.tmps.getD 22 undef=.int .u32 (r i):=hdep 4 (by kernel_rfl)
     refine wp_call (by simp[execOp,Act.eval,e4,go_sem]<;>rfl) ((seatword_any (r i) (HR.out i hlt).1 (HR.out i hlt).2 u).mono ?_)
     rintro e u' ⟨d,rfl,hd,hb⟩
     exact⟨_,rfl,_,rfl,hinv.below hb,trivial,d,rfl,hd⟩
    ·cases ho
     exact wp_val (by simp[execOp,Act.eval,b10,go_sem]<;>rfl) ⟨_,rfl,hinv,trivial,rfl⟩
    ·cases ho
     have e6:c.tmps.getD 24 undef=.int .i64 i:=hdep 6 (by kernel_rfl)
     exact wp_val (by simp[execOp,Act.eval,b5,e6,hi8,go_sem]<;>rfl) ⟨_,rfl,hinv,trivial,rfl⟩
    ·cases ho
     have e7:c.tmps.getD 25 undef=.pointer (some ⟨w.heap.size+1,i,none⟩):=hdep 7 (by kernel_rfl)
     have hc:u.cell? ⟨w.heap.size+1,i,none⟩=some (.int .u64 (x i)):=(cell_block hinv.bx i).1.trans (by simpa using rowL_u64_at x i hlt)
     exact wp_val (by simp[execOp,Act.eval,e7,hc,go_sem]<;>rfl) ⟨_,rfl,hinv,trivial,rfl⟩
    ·cases ho
     have e8:c.tmps.getD 26 undef=.int .u64 (x i):=hdep 8 (by kernel_rfl)
     obtain⟨m,hm⟩:=Int.eq_ofNat_of_zero_le (HX.out i hlt).1
     rw[hm]at e8
     refine wp_call (by simp[execOp,Act.eval,e8,go_sem]<;>rfl) ((seatdouble_any m (by have:=(HX.out i hlt).2;omega) u).mono ?_)
     rintro e u' ⟨d,hd,rfl,hb⟩
     exact⟨_,rfl,_,rfl,hinv.below hb,trivial,(d:Int),rfl,by omega,by omega⟩
    ·cases ho
     exact wp_val (by simp[execOp,Act.eval,b9,go_sem]<;>rfl) ⟨_,rfl,hinv,trivial,rfl⟩
    ·cases ho
     have e10:c.tmps.getD 28 undef=.pointer (some ⟨B,0,none⟩):=hdep 10 (by kernel_rfl)
     have e0:c.tmps.getD 18 undef=.int .i64 i:=hdep 0 (by kernel_rfl)
     exact wp_val (by simp[execOp,Act.eval,e10,e0,hi8,go_sem]<;>rfl) ⟨_,rfl,hinv,trivial,rfl⟩
    ·cases ho
     have e11:c.tmps.getD 29 undef=.pointer (some ⟨B,i,none⟩):=hdep 11 (by kernel_rfl)
     have e5:∃d:Int,c.tmps.getD 23 undef=.int .u32 d∧0≤d∧d<4294967296:=hdep 5 (by kernel_rfl)
     obtain⟨d,e5,hd⟩:=e5
     obtain⟨t,ht,hok⟩:=hinv.st
     have hc:u.cell? ⟨B,i,none⟩=some (.int .u32 (t.r i)):=(cell_block ht i).1.trans (by simpa using sta_r t i hlt)
     have hz:=(cell_block ht i).2
     exact wp_skip (u':=u.setCell ⟨B,i,none⟩ (.int .u32 d)) (by simp[execOp,Act.eval,e11,e5,hc,hz,go_sem]<;>rfl) ⟨undef,rfl,hinv.put i _ (fun t ht=>put_r i hlt d hd t ht),trivial,trivial⟩
    ·cases ho
     exact wp_val (by simp[execOp,Act.eval,b9,go_sem]<;>rfl) ⟨_,rfl,hinv,trivial,rfl⟩
    ·cases ho
     have e13:c.tmps.getD 30 undef=.pointer (some ⟨B,15,none⟩):=hdep 13 (by kernel_rfl)
     have e1:c.tmps.getD 19 undef=.int .i64 i:=hdep 1 (by kernel_rfl)
     exact wp_val (by simp[execOp,Act.eval,e13,e1,hi8,go_sem]<;>rfl) ⟨_,rfl,hinv,trivial,rfl⟩
    ·cases ho
     have e14:c.tmps.getD 31 undef=.pointer (some ⟨B,15+i,none⟩):=hdep 14 (by kernel_rfl)
     have e9:∃d:Int,c.tmps.getD 27 undef=.int .u64 d∧0≤d∧d<18446744073709551616:=hdep 9 (by kernel_rfl)
     obtain⟨d,e9,hd⟩:=e9
     obtain⟨t,ht,hok⟩:=hinv.st
     have hc:u.cell? ⟨B,15+i,none⟩=some (.int .u64 (t.x i)):=(cell_block ht (15+i)).1.trans (by simpa using sta_x t i hlt)
     have hz:=(cell_block ht (15+i)).2
     exact wp_skip (u':=u.setCell ⟨B,15+i,none⟩ (.int .u64 d)) (by simp[execOp,Act.eval,e14,e9,hc,hz,go_sem]<;>rfl) ⟨undef,rfl,hinv.put (15+i) _ (fun t ht=>put_x i hlt d hd t ht),trivial,trivial⟩
   ·intro f u hinv hV
    have HI2:=Lib.hid hinv
    clear hV hinv HI
    simp only[List.size_toArray,List.length_cons,List.length_nil,Nat.reduceAdd,laid,List.getElem?_toArray,List.getElem?_cons_zero,List.getElem?_cons_succ,Option.bind_some,Act.put,List.setIfInBounds_toArray,List.set_cons_zero,List.set_cons_succ]
    have hrb:=HR.out i hlt
    obtain⟨V,hV⟩:∃V,r i=V:=⟨_,rfl⟩
    have hc:u.cell? ⟨w.heap.size,i,none⟩=some (.int .u32 V):=(cell_block HI2.out.br i).1.trans (by rw[←hV];simpa using rowL_u32_at r i hlt)
    rw[hV]at hrb
    obtain⟨v0,v1⟩:=hrb
    clear hV
    cases hbt:(bits .and .u8 (z/2^i) 1==1)with
    |false=>
     go_wp2_with fail
     go_roundw
     case rel=>exact⟨i+1,by omega,by go_num,HI2.out⟩
     case measure=>simp[intOf];omega
    |true=>
     obtain⟨t,ht,hok⟩:=HI2.out.st
     have hcb:u.cell? ⟨B,i,none⟩=some (.int .u32 (t.r i)):=(cell_block ht i).1.trans (by simpa using sta_r t i hlt)
     have hfz:=(cell_block ht i).2
     have HY:=Lib.hid (HI2.out.put i (.int .u32 (V%300)) (fun t ht=>put_r i hlt (V%300) ⟨by omega,by omega⟩ t ht))
     generalize t.r i=tv at hcb
     clear ht hok
     go_wp2_with fail
     go_roundw
     case rel=>exact⟨i+1,by omega,by go_num,HY.out⟩
     case measure=>simp[intOf];omega
  ·have hd:decide ((i:Int)<8)=false:=decide_eq_false (by omega)
   obtain⟨t,ht,hok⟩:=hq.st
   obtain⟨C,hC,hz⟩:=hq.res
   have HST:=Lib.hid (range_in13 ht 0 (staL t) rfl)
   have HTH:=Lib.hid (show wo.there (w.heap.size+2) 0 23 from there_block hC 0 23 (by omega))
   have HOK:=Lib.hid (And.intro hok hq.bel)
   clear ht hC hz hok hq HQ
   go_wp2_with (first
    |(refine wpList_load_mid rfl 29 (.tmp 9) rfl B 0 rfl (staL t) _ HST.out Tryz.underlying29 rfl info_sta ?_)
    |(refine store_row rfl 29 (.tmp 8) (.tmp 44) rfl (w.heap.size+2) rfl (staL t) rfl _ Tryz.underlying29 rfl info_sta (sta_one t) HTH.out ?_;intro V hV hl;have HL:=Lib.hid hl;have HB:=Lib.hid (show Below w.heap.size w V by rw[hV];exact below_setCells (by omega) _ _ _ HOK.out.2);clear hV hl))
   exact bodyPost_ret (results_cell rfl rfl HL.out) rfl ⟨t,rfl,HOK.out.1,HB.out⟩
end
section
open Go.ChangeShapes Go.WideShapes Go.ChangeAt Go.RowKit
set_option maxRecDepth 100000
set_option maxHeartbeats 4000000
theorem risalu_any(op:Int)(w:World):Calls Tryz.prog 12 #[.int .i64 op] w fun e w'=>e=.returned (.bool (isAluB op))∧w=w':=by
 by_cases h23:op=23
 ·subst h23
  go_enter Tryz.func12,Tryz.ntmps12
  go_wp2
  go_ret
  exact⟨rfl,rfl⟩
 have e23:(op==23)=false:=by simpa using h23
 by_cases h24:op=24
 ·subst h24
  go_enter Tryz.func12,Tryz.ntmps12
  go_wp2
  go_ret
  exact⟨rfl,rfl⟩
 have e24:(op==24)=false:=by simpa using h24
 by_cases h35:op=35
 ·subst h35
  go_enter Tryz.func12,Tryz.ntmps12
  go_wp2
  go_ret
  exact⟨rfl,rfl⟩
 have e35:(op==35)=false:=by simpa using h35
 by_cases h36:op=36
 ·subst h36
  go_enter Tryz.func12,Tryz.ntmps12
  go_wp2
  go_ret
  exact⟨rfl,rfl⟩
 have e36:(op==36)=false:=by simpa using h36
 by_cases h37:op=37
 ·subst h37
  go_enter Tryz.func12,Tryz.ntmps12
  go_wp2
  go_ret
  exact⟨rfl,rfl⟩
 have e37:(op==37)=false:=by simpa using h37
 by_cases h38:op=38
 ·subst h38
  go_enter Tryz.func12,Tryz.ntmps12
  go_wp2
  go_ret
  exact⟨rfl,rfl⟩
 have e38:(op==38)=false:=by simpa using h38
 by_cases h41:op=41
 ·subst h41
  go_enter Tryz.func12,Tryz.ntmps12
  go_wp2
  go_ret
  exact⟨rfl,rfl⟩
 have e41:(op==41)=false:=by simpa using h41
 by_cases h42:op=42
 ·subst h42
  go_enter Tryz.func12,Tryz.ntmps12
  go_wp2
  go_ret
  exact⟨rfl,rfl⟩
 have e42:(op==42)=false:=by simpa using h42
 by_cases h43:op=43
 ·subst h43
  go_enter Tryz.func12,Tryz.ntmps12
  go_wp2
  go_ret
  exact⟨rfl,rfl⟩
 have e43:(op==43)=false:=by simpa using h43
 by_cases h44:op=44
 ·subst h44
  go_enter Tryz.func12,Tryz.ntmps12
  go_wp2
  go_ret
  exact⟨rfl,rfl⟩
 have e44:(op==44)=false:=by simpa using h44
 by_cases h45:op=45
 ·subst h45
  go_enter Tryz.func12,Tryz.ntmps12
  go_wp2
  go_ret
  exact⟨rfl,rfl⟩
 have e45:(op==45)=false:=by simpa using h45
 by_cases h50:op=50
 ·subst h50
  go_enter Tryz.func12,Tryz.ntmps12
  go_wp2
  go_ret
  exact⟨rfl,rfl⟩
 have e50:(op==50)=false:=by simpa using h50
 obtain⟨B,hB⟩:∃B,decide (1≤op∧op≤30)=B:=⟨_,rfl⟩
 have HV:=Lib.hid (show isAluB op=B by rw[←hB];unfold isAluB;simp only[e23,e24,e35,e36,e37,e38,e41,e42,e43,e44,e45,e50];simp)
 have HIN:=Lib.hid (in13_is hB)
 clear hB h23 h24 h35 h36 h37 h38 h41 h42 h43 h44 h45 h50
 go_enter Tryz.func12,Tryz.ntmps12
 go_wp2_with (go_at_call 28;refine(HIN.out _).mono ?_;rintro e w' ⟨rfl,rfl⟩)
 go_ret
 exact⟨by rw[HV.out];rfl,rfl⟩
end
section
open Go.ChangeShapes Go.WideShapes Go.ChangeAt Go.RowKit
set_option maxRecDepth 100000
def OwnB(w:World)(base:Nat)(v:Value)(l:List Int):Prop:=
 ∃g cap,v=.slice (some ⟨g,0,none⟩) l.length cap∧base≤g∧g<w.heap.size∧l.length≤cap∧cap≤maxLen∧w.rangeAt g 0 (l.map (.int .u8))∧w.there g 0 cap
theorem OwnB.slc{w:World}{base:Nat}{v:Value}{l:List Int}(h:OwnB w base v l):Slc .u8 w v l.length (lst l):=by
 obtain⟨g,cap,rfl,_,_,hc,_,hr,_⟩:=h
 refine .inr ⟨_,_,rfl,hc,fun i hi=>?_⟩
 rw[addr_add]
 exact hr i _ (lst_map l i hi)
theorem OwnB.below{w w':World}{base:Nat}{v:Value}{l:List Int}(h:OwnB w base v l)(hb:Below w.heap.size w w'):OwnB w' base v l:=by
 obtain⟨g,cap,rfl,h1,h2,h3,h4,h5,h6⟩:=h
 refine⟨g,cap,rfl,h1,Nat.lt_of_lt_of_le h2 hb.size,h3,h4,fun j v hj=>?_,there_but (F:=fun _=>False) (But.of_below hb) (fun h=>h) h2 h6⟩
 rw[hb.cell (p:=⟨g,0+j,none⟩) h2]
 exact h5 j v hj
theorem OwnB.mono{w:World}{base base':Nat}{v:Value}{l:List Int}(h:OwnB w base v l)(hb:base'≤base):OwnB w base' v l:=by
 obtain⟨g,cap,h0,h1,h2⟩:=h
 exact⟨g,cap,h0,Nat.le_trans hb h1,h2⟩
theorem OwnB.len{w:World}{base:Nat}{v:Value}{l:List Int}(h:OwnB w base v l):∃a cap,v=.slice a l.length cap:=by
 obtain⟨g,cap,rfl,_⟩:=h
 exact⟨_,_,rfl⟩
theorem OwnB.made(w:World)(base:Nat)(hb:base≤w.heap.size)(C:Array Value)(T:TypeId)(fz:Nat×Nat)(l:List Int)(hC:C.size≤maxLen)(hl:l.length≤C.size)(hr:∀i,i<l.length→C[i]?=some (.int .u8 (lst l i)))(hz:fz.2=0∨C.size≤fz.1)(cap:Nat)(hcap:cap=C.size):
  OwnB (w.alloc (.cells C T fz)) base (.slice (some ⟨w.heap.size,0,none⟩) l.length cap) l:=by
 subst hcap
 have hh:(w.alloc (.cells C T fz)).heap[w.heap.size]?=some (.cells C T fz):=by
  show(w.heap.push _)[w.heap.size]?=_
  simp
 have hc:∀j,(w.alloc (.cells C T fz)).cell? ⟨w.heap.size,j,none⟩=C[j]?:=fun j=>by
  unfold World.cell?
  simp only
  rw[hh]
  simp
 refine⟨_,_,rfl,hb,by simp,hl,hC,fun j v hj=>?_,fun j hj=>?_⟩
 ·have hj':j<l.length:=by
   have:=(List.getElem?_eq_some_iff.1 hj).1
   simpa using this
  rw[lst_map l j hj']at hj
  rw[Nat.zero_add,hc,hr j hj']
  exact hj
 ·rw[Nat.zero_add,hc]
  refine⟨by rw[Array.getElem?_eq_getElem hj];rfl,?_⟩
  obtain⟨lo,hi⟩:=fz
  unfold World.frozen?
  simp only
  rw[hh]
  simp only[Bool.and_eq_false_iff,decide_eq_false_iff_not]
  simp only at hz
  omega
theorem append_ownB{w:World}{ops:Array Oper}{rest:List Oper}{o:Oper}{a:Act}{Q:Exit→Act→World→Prop}
  (hg:o.guard=none) (s x:Operand) (hop:o.op=Op.call { callee:=Callee.builtin Builtin.append,args:=#[s,x],argTypes:=#[37,37] })
  (base:Nat) (v1 v2:Value) (l1 l2:List Int) (hs:a.eval s=v1) (hx:a.eval x=v2) (h1:OwnB w base v1 l1) (h2:Slc .u8 w v2 l2.length (lst l2)) (h0:0<l2.length) (hb:l1.length+l2.length≤1000000) (hbase:base≤w.heap.size)
  (hK:∀v' w',OwnB w' base v' (l1++l2)→OwnB w' base v1 l1→(∀W,Below base W w→Below base W w')→w.heap.size≤w'.heap.size→wpList Tryz.prog ops Q rest (a.put o.dst v') w'):
  wpList Tryz.prog ops Q (o :: rest) a w:=by
 obtain⟨i0,hi,hz0,hz1,hz2⟩:=info_parts info_u8'
 rcases h2 with⟨_,h⟩|⟨b,c,rfl,hc,hcell⟩
 ·omega
 have hold:=h1
 obtain⟨g,cap,rfl,g1,g2,g3,g4,g5,g6⟩:=h1
 have hnews:∀j u,(l2.map (Value.int .u8))[j]?=some u→w.cell? (b.add j)=some u:=fun j u hj=>by
  have hjl:j<l2.length:=by
   have:=(List.getElem?_eq_some_iff.1 hj).1
   simpa using this
  rw[lst_map l2 j hjl]at hj
  rw[hcell j hjl]
  exact hj
 have holds:∀j u,(l1.map (Value.int .u8))[j]?=some u→w.cell? ((⟨g,0,none⟩:Addr).add j)=some u:=fun j u hj=>by
  rw[addr_add]
  exact g5 j u hj
 have fin:∀v' w',(Builtin.append_ #[37,37] o.type #[.slice (some ⟨g,0,none⟩) l1.length cap,.slice (some b) l2.length c]).run Tryz.prog w=.ok v' w'→wpList Tryz.prog ops Q rest (a.put o.dst v') w'→wpList Tryz.prog ops Q (o :: rest) a w:=fun v' w' hr hk=>
  wpList_plain hg fun _ hh=>by
   unfold Oper.wp execOp
   simp only[hop,resolve,invoke,builtin,Sem.run_bind,Sem.run_pure,Result.andThen_ok,List.map_toArray,List.map_cons,List.map_nil,hs,hx,hr]
   exact hh _ _ hk
 by_cases hroom:l1.length+l2.length≤cap
 ·have hst:=run_storeCells_cells (P:=Tryz.prog) g l1.length (l2.map (Value.int .u8)) 0 w (fun j hj=>by
    have hj':j<l2.length:=by simpa using hj
    have:=(g6 (l1.length+j) (by omega)).1
    rw[Nat.zero_add]at this
    simpa[addr_add]using this) (fun j hj=>by
    have hj':j<l2.length:=by simpa using hj
    have:=(g6 (l1.length+j) (by omega)).2
    rw[Nat.zero_add]at this
    simpa[addr_add]using this) (int_one .u8 l2)
  simp only[Nat.add_zero]at hst
  have hf:=run_firstCells_some (P:=Tryz.prog) w i0.size l2.length b l2.length c (l2.map (Value.int .u8)) (by rw[hz1];simp) hnews
  refine fin (.slice (some ⟨g,0,none⟩) (l1.length+l2.length) cap) (w.setCells g l1.length (l2.map (Value.int .u8))) ?_ ?_
  ·simp[Builtin.append_,run_underlying (Tryz.underlying37),sizeOf,typeInfo,hi,Builtin.lenOf,hroom,Addr.add_lit,hz1]
   rw[hz1]at hf
   simp[hf,hst]
  ·refine hK _ _ ⟨g,cap,by rw[List.length_append],g1,by rw[setCells_size];exact g2,by rw[List.length_append];exact hroom,g4,?_,World.there_setCells g6 _ _ _⟩ ⟨g,cap,rfl,g1,by rw[setCells_size];exact g2,g3,g4,World.rangeAt_setCells_apart g5 g l1.length (l2.map (Value.int .u8)) (.inr (.inl (by simp))),World.there_setCells g6 _ _ _⟩ (fun W hW=>below_setCells g1 _ _ _ hW) (by rw[setCells_size];exact Nat.le_refl _)
   intro j v hj
   rw[List.map_append]at hj
   by_cases hjl:j<l1.length
   ·rw[List.getElem?_append_left (by simpa using hjl)]at hj
    exact World.rangeAt_setCells_apart g5 g l1.length (l2.map (Value.int .u8)) (.inr (.inl (by simp))) j v hj
   ·rw[List.getElem?_append_right (by simp;omega)]at hj
    have hsame:=World.rangeAt_setCells_same w g l1.length (l2.map (Value.int .u8)) (fun i hi=>by
     have hi':i<l2.length:=by simpa using hi
     have:=g6 (l1.length+i) (by omega)
     rw[Nat.zero_add]at this
     exact this) (j-l1.length) v (by simpa using hj)
    rw[show l1.length+(j-l1.length)=0+j by omega]at hsame
    exact hsame
 ·have hr:=run_append_grow (P:=Tryz.prog) w 37 o.type 5 i0 (.int .u8 0) Tryz.underlying37 hi hz0 ⟨g,0,none⟩ l1.length cap (l1.map (Value.int .u8)) (by rw[hz1];simp) holds b l2.length c (l2.map (Value.int .u8)) (by rw[hz1];simp) hnews (by omega) (by omega) (growslice_fits (by omega) (by rw[hz2];omega))
  have hge:=grownCap_ge w (l1.length+l2.length) cap 5
  have hle:=grownCap_le_maxLen w (l1.length+l2.length) cap 5 (by unfold maxLen;omega)
  refine fin _ _ hr ?_
  refine hK _ _ ?_ (hold.below ((Below.refl _ w).drew.alloc (Nat.le_refl _) _)) (fun W hW=>(hW.drew).alloc (by exact hbase) _) (by simp)
  have hsz:((l1.map (Value.int .u8)).toArray++(l2.map (Value.int .u8)).toArray++Builtin.zeroCells (Value.int .u8 0).cells (grownCap w (l1.length+l2.length) cap 5-(l1.length+l2.length))).size=grownCap w (l1.length+l2.length) cap 5:=by
   simp only[Array.size_append,List.size_toArray,List.length_map,size_zeroCells,Value.cells]
   simp
   omega
  have hm:=OwnB.made w.drew base hbase ((l1.map (Value.int .u8)).toArray++(l2.map (Value.int .u8)).toArray++Builtin.zeroCells (Value.int .u8 0).cells (grownCap w (l1.length+l2.length) cap 5-(l1.length+l2.length))) 5 (0,0) (l1++l2) (by rw[hsz];exact hle) (by rw[hsz,List.length_append];exact hge) (fun i hi=>by
   rw[List.length_append]at hi
   rw[Array.getElem?_append_left (by simpa using hi),←lst_map (k:=.u8) (l1++l2) i (by rw[List.length_append];exact hi)]
   simp) (.inl rfl) _ hsz.symm
  rw[List.length_append]at hm
  exact hm
theorem convert_ownB{w:World}{ops:Array Oper}{rest:List Oper}{o:Oper}{a:Act}{Q:Exit→Act→World→Prop}
  (hg:o.guard=none) (x:Operand) (hop:o.op=Op.convert 9 37 x) (base:Nat) (l:List Int) (hx:a.eval x=.string ⟨(l.map fun i=>UInt8.ofNat i.toNat).toArray⟩) (h8:∀i∈l,0≤i∧i<256) (hl:l.length≤1000000) (hbase:base≤w.heap.size)
  (hK:∀v' w',OwnB w' base v' l→(∀W,Below base W w→Below base W w')→w.heap.size≤w'.heap.size→wpList Tryz.prog ops Q rest (a.put o.dst v') w'):
  wpList Tryz.prog ops Q (o :: rest) a w:=
 wpList_plain hg fun _ hh=>by
  obtain⟨S,hS⟩:∃S:ByteArray,S=⟨(l.map fun i=>UInt8.ofNat i.toNat).toArray⟩:=⟨_,rfl⟩
  rw[←hS]at hx
  have hsl:S.size=l.length:=by rw[hS];show(l.map _).toArray.size=_;simp
  have hr:=run_bytes_of_string (P:=Tryz.prog) w 9 37 5 S Tryz.underlying9 Tryz.underlying37 Tryz.underlying5
  have hge:=grownCap_ge w S.size 0 5
  have hle:=grownCap_le_maxLen w S.size 0 5 (by rw[hsl];unfold maxLen;omega)
  have hsz:(bytesRow S (grownCap w S.size 0 5)).size=grownCap w S.size 0 5:=by
   unfold bytesRow
   simp only[Array.size_append,Array.size_map,Array.size_replicate]
   show S.size+_=_
   omega
  unfold Oper.wp execOp
  simp only[hop,hx,Sem.run_bind,hr,Result.andThen_ok,Sem.run_pure]
  refine hh _ _ (hK _ _ ?_ (fun W hW=>(hW.drew).alloc (by exact hbase) _) (by simp))
  have hm:=OwnB.made w.drew base hbase (bytesRow S (grownCap w S.size 0 5)) 5 ((bytesRow S (grownCap w S.size 0 5)).size,(bytesRow S (grownCap w S.size 0 5)).size+1) l (by rw[hsz];exact hle) (by rw[hsz,←hsl];exact hge) (fun i hi=>by
   have h8i:=h8 (l[i]) (List.getElem_mem hi)
   unfold bytesRow
   rw[Array.getElem?_append_left (by simp;show i<S.size;omega)]
   have e:lst l i=l[i]:=by unfold lst;simp[List.getD_eq_getElem?_getD,List.getElem?_eq_getElem hi]
   rw[e,hS]
   simp[List.getElem?_eq_getElem hi]
   omega) (.inr (Nat.le_refl _)) _ hsz.symm
  rw[←hsl]at hm
  exact hm
end
end Go.Proofs.YtmdncgfheeijaaaGreat
