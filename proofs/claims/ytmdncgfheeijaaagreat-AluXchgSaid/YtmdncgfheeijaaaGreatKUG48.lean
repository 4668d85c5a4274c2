import Derived.Test.YtmdncgfheeijaaaGreatKUG24
import Derived.Test.YtmdncgfheeijaaaGreatKUG47
namespace Go.Proofs.YtmdncgfheeijaaaGreat
section
open Go.ChangeShapes Go.WideShapes Go.ChangeAt Go.RowKit
attribute [local go_sem] isSome_setCell
set_option maxRecDepth 100000
set_option maxHeartbeats 4000000
theorem seatword_any(k:Int)(k0:0≤k)(k1:k<4294967296)(w:World):Calls Tryz.prog 31 #[.int .u32 k] w fun e w'=>∃d:Int,e=.returned (.int .u32 d)∧(0≤d∧d<4294967296)∧Below w.heap.size w w':=by
 by_cases h:k%3=0
 ·have hz:(k%3==0)=true:=by rw[beq_iff_eq];omega
  clear h
  go_enter Tryz.func31,Tryz.ntmps31
  go_wp2_with fail
  go_ret
  exact⟨k/3,rfl,by omega,below_last (Below.refl _ _) _⟩
 ·have hz:(k%3==0)=false:=by rw[beq_eq_false_iff_ne];omega
  clear h
  obtain⟨j,hj⟩:∃j:Nat,k/3%16=j:=⟨(k/3%16).toNat,by omega⟩
  have hj16:j<16:=by omega
  go_enter Tryz.func31,Tryz.ntmps31
  go_wp2_with fail
  go_ret
  clear hj
  refine⟨[0,1,2,4,8,31,127,128,255,2147483647,2147483648,4294967295,4294967294,64,100,128].getD j 0,?_,?_,below_last (Below.refl _ _) _⟩
  all_goals
   obtain rfl|rfl|rfl|rfl|rfl|rfl|rfl|rfl|rfl|rfl|rfl|rfl|rfl|rfl|rfl|rfl:j=0∨j=1∨j=2∨j=3∨j=4∨j=5∨j=6∨j=7∨j=8∨j=9∨j=10∨j=11∨j=12∨j=13∨j=14∨j=15:=by omega
   all_goals first|rfl|simp
end
section
open Go.ChangeShapes Go.WideShapes Go.ChangeAt Go.RowKit
attribute [local go_sem] isSome_setCell
set_option maxRecDepth 100000
set_option maxHeartbeats 2000000
theorem seatdouble_any(k:Nat)(k1:k<18446744073709551616)(w:World):Calls Tryz.prog 32 #[.int .u64 (k:Int)] w fun e w'=>
  ∃d:Nat,d<18446744073709551616∧e=.returned (.int .u64 (d:Int))∧Below w.heap.size w w':=by
 by_cases h:k%4=0
 ·have hz:((k:Int)%4==0)=true:=by rw[beq_iff_eq];omega
  clear h
  go_enter Tryz.func32,Tryz.ntmps32
  go_wp2
  go_ret
  exact⟨k,k1,rfl,below_last (Below.refl _ _) _⟩
 ·have hz:((k:Int)%4==0)=false:=by rw[beq_eq_false_iff_ne];omega
  clear h
  obtain⟨j,hj⟩:∃j:Nat,(k:Int)/4%18=j:=⟨k/4%18,by omega⟩
  have hj18:j<18:=by omega
  go_enter Tryz.func32,Tryz.ntmps32
  go_wp2
  go_ret
  clear hj
  refine⟨[0,9223372036854775808,4607182418800017408,13830554455654793216,9218868437227405312,18442240474082181120,9221120237041090561,9218868437227405313,18444492273895866368,1,9223372036854775809,9218868437227405311,4746794007248502784,13970166044105375744,4746794007244308480,4602678819172646912,4613937818241073152,4503599627370496][j],?_,?_,below_last (Below.refl _ _) _⟩
  all_goals
   obtain rfl|rfl|rfl|rfl|rfl|rfl|rfl|rfl|rfl|rfl|rfl|rfl|rfl|rfl|rfl|rfl|rfl|rfl:j=0∨j=1∨j=2∨j=3∨j=4∨j=5∨j=6∨j=7∨j=8∨j=9∨j=10∨j=11∨j=12∨j=13∨j=14∨j=15∨j=16∨j=17:=by omega
   all_goals first|rfl|simp
end
section
open Go.ChangeShapes Go.WideShapes Go.ChangeAt Go.RowKit
set_option maxRecDepth 100000
def plN(i:Nat):Nat:=[0,2,6,7,10,11].getD i 0
def bitB(v:Int)(i:Nat):Bool:=v/2^plN i%2==1
theorem and1w(a:Int)(h0:0≤a)(h1:a<4294967296):bits .and .u32 a 1=a%2:=by
 rw[u32_and a 1 h0 h1 (by decide) (by decide)]
 have h:a.toNat &&& (1:Int).toNat=a.toNat%2:=Nat.and_two_pow_sub_one_eq_mod a.toNat 1
 rw[h]
 omega
def plA:Array Value:=#[.int .i64 0,.int .i64 2,.int .i64 6,.int .i64 7,.int .i64 10,.int .i64 11]
set_option maxHeartbeats 4000000
theorem rplaces_any(w:World):Calls Tryz.prog 117 #[] w fun e w'=>e=.returned (.slice (some ⟨w.heap.size,0,none⟩) 6 6)∧w'=w.alloc (.cells plA 3):=by
 go_enter Tryz.func117,Tryz.ntmps117
 go_wp2
 go_ret
 exact⟨rfl,rfl⟩
theorem ron_any(v:Int)(v0:0≤v)(v1:v<4294967296)(i:Nat)(hi:i<6)(w:World):Calls Tryz.prog 83 #[.int .u32 v,.int .i64 i] w fun e w'=>e=.returned (.bool (bitB v i))∧Below w.heap.size w w':=by
 have hc:∀k,(w.alloc (.cells plA 3)).cell? ⟨w.heap.size,k,none⟩=plA[k]?:=fun k=>World.cell?_alloc_new _ _ _ _
 have HC:=Lib.hid hc
 clear hc
 rcases(show i=0∨i=1∨i=2∨i=3∨i=4∨i=5 by omega)with rfl|rfl|rfl|rfl|rfl|rfl
 ·have hc:=HC.out 0
  have a1:=and1w (v) (by omega) (by omega)
  have HB:=Lib.hid (show bitB v 0=(v%2==1)by unfold bitB;rw[show(2:Int)^plN 0=1 from rfl];rw[Int.ediv_one])
  go_enter Tryz.func83,Tryz.ntmps83
  go_wp2_with fail
  ((with_reducible refine(rplaces_any _).mono ?_);rintro e w' ⟨rfl,rfl⟩)
  unfold plA at hc ⊢
  go_wp2_with fail
  go_ret
  exact⟨by rw[HB.out];rfl,below_last (Below.refl _ _) _⟩
 ·have hc:=HC.out 1
  have a1:=and1w (v/4) (by omega) (by omega)
  have HB:=Lib.hid (show bitB v 1=(v/4%2==1)by unfold bitB;rw[show(2:Int)^plN 1=4 from rfl])
  go_enter Tryz.func83,Tryz.ntmps83
  go_wp2_with fail
  ((with_reducible refine(rplaces_any _).mono ?_);rintro e w' ⟨rfl,rfl⟩)
  unfold plA at hc ⊢
  go_wp2_with fail
  go_ret
  exact⟨by rw[HB.out];rfl,below_last (Below.refl _ _) _⟩
 ·have hc:=HC.out 2
  have a1:=and1w (v/64) (by omega) (by omega)
  have HB:=Lib.hid (show bitB v 2=(v/64%2==1)by unfold bitB;rw[show(2:Int)^plN 2=64 from rfl])
  go_enter Tryz.func83,Tryz.ntmps83
  go_wp2_with fail
  ((with_reducible refine(rplaces_any _).mono ?_);rintro e w' ⟨rfl,rfl⟩)
  unfold plA at hc ⊢
  go_wp2_with fail
  go_ret
  exact⟨by rw[HB.out];rfl,below_last (Below.refl _ _) _⟩
 ·have hc:=HC.out 3
  have a1:=and1w (v/128) (by omega) (by omega)
  have HB:=Lib.hid (show bitB v 3=(v/128%2==1)by unfold bitB;rw[show(2:Int)^plN 3=128 from rfl])
  go_enter Tryz.func83,Tryz.ntmps83
  go_wp2_with fail
  ((with_reducible refine(rplaces_any _).mono ?_);rintro e w' ⟨rfl,rfl⟩)
  unfold plA at hc ⊢
  go_wp2_with fail
  go_ret
  exact⟨by rw[HB.out];rfl,below_last (Below.refl _ _) _⟩
 ·have hc:=HC.out 4
  have a1:=and1w (v/1024) (by omega) (by omega)
  have HB:=Lib.hid (show bitB v 4=(v/1024%2==1)by unfold bitB;rw[show(2:Int)^plN 4=1024 from rfl])
  go_enter Tryz.func83,Tryz.ntmps83
  go_wp2_with fail
  ((with_reducible refine(rplaces_any _).mono ?_);rintro e w' ⟨rfl,rfl⟩)
  unfold plA at hc ⊢
  go_wp2_with fail
  go_ret
  exact⟨by rw[HB.out];rfl,below_last (Below.refl _ _) _⟩
 ·have hc:=HC.out 5
  have a1:=and1w (v/2048) (by omega) (by omega)
  have HB:=Lib.hid (show bitB v 5=(v/2048%2==1)by unfold bitB;rw[show(2:Int)^plN 5=2048 from rfl])
  go_enter Tryz.func83,Tryz.ntmps83
  go_wp2_with fail
  ((with_reducible refine(rplaces_any _).mono ?_);rintro e w' ⟨rfl,rfl⟩)
  unfold plA at hc ⊢
  go_wp2_with fail
  go_ret
  exact⟨by rw[HB.out];rfl,below_last (Below.refl _ _) _⟩
theorem heap_0f(w:World)(o:Obj):(w.alloc o).heap[w.heap.size]?=some o:=by show(w.heap.push _)[w.heap.size]?=_;simp
theorem info_fl:(Tryz.prog.info? 25).map (·.size)=some 6:=by kernel_rfl
set_option maxHeartbeats 8000000
theorem rfrom13_any(v:Int)(v0:0≤v)(v1:v<4294967296)(w:World):Calls Tryz.prog 56 #[.int .u32 v] w fun e w'=>e=.returned (.agg #[.bool (bitB v 0),.bool (bitB v 1),.bool (bitB v 2),.bool (bitB v 3),.bool (bitB v 5),.bool (bitB v 4)])∧Below w.heap.size w w':=by
 have H0:=Lib.hid (show ∀w,Calls Tryz.prog 83 #[.int .u32 v,.int .i64 0] w fun e w'=>e=.returned (.bool (bitB v 0))∧Below w.heap.size w w' from fun w=>ron_any v v0 v1 0 (by decide) w)
 have H1:=Lib.hid (show ∀w,Calls Tryz.prog 83 #[.int .u32 v,.int .i64 1] w fun e w'=>e=.returned (.bool (bitB v 1))∧Below w.heap.size w w' from fun w=>ron_any v v0 v1 1 (by decide) w)
 have H2:=Lib.hid (show ∀w,Calls Tryz.prog 83 #[.int .u32 v,.int .i64 2] w fun e w'=>e=.returned (.bool (bitB v 2))∧Below w.heap.size w w' from fun w=>ron_any v v0 v1 2 (by decide) w)
 have H3:=Lib.hid (show ∀w,Calls Tryz.prog 83 #[.int .u32 v,.int .i64 3] w fun e w'=>e=.returned (.bool (bitB v 3))∧Below w.heap.size w w' from fun w=>ron_any v v0 v1 3 (by decide) w)
 have H4:=Lib.hid (show ∀w,Calls Tryz.prog 83 #[.int .u32 v,.int .i64 4] w fun e w'=>e=.returned (.bool (bitB v 4))∧Below w.heap.size w w' from fun w=>ron_any v v0 v1 4 (by decide) w)
 have H5:=Lib.hid (show ∀w,Calls Tryz.prog 83 #[.int .u32 v,.int .i64 5] w fun e w'=>e=.returned (.bool (bitB v 5))∧Below w.heap.size w w' from fun w=>ron_any v v0 v1 5 (by decide) w)
 have HK:=Lib.hid (show(w.alloc (.cells #[.bool false,.bool false,.bool false,.bool false,.bool false,.bool false] 25)).heap[w.heap.size]?=_ from heap_0f w _)
 have HB:=Lib.hid (below_last (Below.refl w.heap.size w) (.cells #[.bool false,.bool false,.bool false,.bool false,.bool false,.bool false] 25))
 go_enter Tryz.func56,Tryz.ntmps56
 go_wp2_with fail
 ((with_reducible refine(H0.out _).mono ?_);rintro e w1 ⟨rfl,b0⟩)
 have HK:=Lib.hid ((b0.block _ (Array.getElem?_eq_some_iff.1 HK.out).1).trans HK.out)
 have HB:=Lib.hid (HB.out.trans (b0.mono HB.out.size))
 clear b0
 go_wp2_with fail
 ((with_reducible refine(H1.out _).mono ?_);rintro e w2 ⟨rfl,b1⟩)
 have HK:=Lib.hid ((b1.block _ (Array.getElem?_eq_some_iff.1 HK.out).1).trans HK.out)
 have HB:=Lib.hid (HB.out.trans (b1.mono HB.out.size))
 clear b1
 go_wp2_with fail
 ((with_reducible refine(H2.out _).mono ?_);rintro e w3 ⟨rfl,b2⟩)
 have HK:=Lib.hid ((b2.block _ (Array.getElem?_eq_some_iff.1 HK.out).1).trans HK.out)
 have HB:=Lib.hid (HB.out.trans (b2.mono HB.out.size))
 clear b2
 go_wp2_with fail
 ((with_reducible refine(H3.out _).mono ?_);rintro e w4 ⟨rfl,b3⟩)
 have HK:=Lib.hid ((b3.block _ (Array.getElem?_eq_some_iff.1 HK.out).1).trans HK.out)
 have HB:=Lib.hid (HB.out.trans (b3.mono HB.out.size))
 clear b3
 go_wp2_with fail
 ((with_reducible refine(H4.out _).mono ?_);rintro e w5 ⟨rfl,b4⟩)
 have HK:=Lib.hid ((b4.block _ (Array.getElem?_eq_some_iff.1 HK.out).1).trans HK.out)
 have HB:=Lib.hid (HB.out.trans (b4.mono HB.out.size))
 clear b4
 go_wp2_with fail
 ((with_reducible refine(H5.out _).mono ?_);rintro e w6 ⟨rfl,b5⟩)
 have HK:=Lib.hid ((b5.block _ (Array.getElem?_eq_some_iff.1 HK.out).1).trans HK.out)
 have HB:=Lib.hid (HB.out.trans (b5.mono HB.out.size))
 clear b5
 have HT:=Lib.hid (there_block HK.out 0 6 (Nat.le_refl 6))
 go_wp2_with (refine store_row rfl 25 (.tmp 2) (.tmp 15) rfl w.heap.size rfl [.bool (bitB v 0),.bool (bitB v 1),.bool (bitB v 2),.bool (bitB v 3),.bool (bitB v 5),.bool (bitB v 4)] rfl _ Tryz.underlying25 rfl info_fl (by simp[Value.oneCell']) HT.out ?_;intro Y hY hl;have HL:=Lib.hid hl;have HY:=Lib.hid (show Below w.heap.size w Y by rw[hY];exact below_setCells (Nat.le_refl _) _ _ _ HB.out);clear hY hl)
 refine bodyPost_ret (results_cell rfl rfl HL.out) rfl ⟨rfl,HY.out⟩
end
section
open Go.ChangeShapes Go.WideShapes Go.ChangeAt Go.RowKit
set_option maxRecDepth 100000
theorem flags_fin:∀k:Fin 256,0≤bits .or .u32 ((k:Nat)*37:Int) (bits .and .u8 ((k:Nat):Int) 8%4294967296*128%4294967296)∧bits .or .u32 ((k:Nat)*37:Int) (bits .and .u8 ((k:Nat):Int) 8%4294967296*128%4294967296)<4294967296:=by decide +kernel
set_option maxHeartbeats 4000000
theorem seatflags_any(k:Int)(k0:0≤k)(k1:k<256)(w:World):Calls Tryz.prog 30 #[.int .u8 k] w fun e w'=>∃c p z s o d:Bool,e=.returned (.agg #[.bool c,.bool p,.bool z,.bool s,.bool o,.bool d])∧Below w.heap.size w w':=by
 obtain⟨j,rfl⟩:=Int.eq_ofNat_of_zero_le k0
 have hf:=flags_fin ⟨j,by omega⟩
 obtain⟨V,hV⟩:∃V,bits .or .u32 ((j:Int)*37) (bits .and .u8 (j:Int) 8%4294967296*128%4294967296)=V:=⟨_,rfl⟩
 have hf:0≤V∧V<4294967296:=by rw[←hV];exact hf
 have HF:=Lib.hid (fun u=>rfrom13_any V hf.1 hf.2 u)
 go_enter Tryz.func30,Tryz.ntmps30
 go_upto_region 1 with fail
 obtain⟨W,hW⟩:∃W,W=w.alloc (.cells #[.bool false,.bool false,.bool false,.bool false,.bool false,.bool false] 25):=⟨_,rfl⟩
 rw[←hW]
 have HB:=Lib.hid (show W.heap[w.heap.size]?=some (.cells #[.bool false,.bool false,.bool false,.bool false,.bool false,.bool false] 25 (0,0))by rw[hW];exact heap_0f w _)
 have HBE:=Lib.hid (show Below w.heap.size w W by rw[hW];exact below_last (Below.refl _ _) _)
 clear hW
 go_wp2_with fail
 ((with_reducible refine(HF.out _).mono ?_);rintro e w1 ⟨rfl,b1⟩)
 have HT:=Lib.hid (there_block ((b1.block _ (Array.getElem?_eq_some_iff.1 HB.out).1).trans HB.out) 0 6 (Nat.le_refl 6))
 have HB1:=Lib.hid (HBE.out.trans (b1.mono HBE.out.size))
 clear b1
 go_wp2_with (refine store_row rfl 25 (.tmp 2) (.tmp 11) rfl w.heap.size rfl [.bool (bitB V 0),.bool (bitB V 1),.bool (bitB V 2),.bool (bitB V 3),.bool (bitB V 5),.bool (bitB V 4)] rfl _ Tryz.underlying25 rfl info_fl (by simp[Value.oneCell']) HT.out ?_;intro Y hY hl;have HL:=Lib.hid hl;have HY:=Lib.hid (show Below w.heap.size w Y by rw[hY];exact below_setCells (Nat.le_refl _) _ _ _ HB1.out);clear hY hl)
 exact bodyPost_ret (results_cell rfl rfl HL.out) rfl ⟨_,_,_,_,_,_,rfl,HY.out⟩
structure QI (w:World) (B:Nat) (r x:Nat→Int) (u:World):Prop where
 br:u.heap[w.heap.size]?=some (.cells (rowL_u32 r).toArray 23 (0,0))
 bx:u.heap[w.heap.size+1]?=some (.cells (rowL_u64 x).toArray 27 (0,0))
 res:∃C,u.heap[w.heap.size+2]?=some (.cells C 29 (0,0))∧C.size=23
 st:∃t,u.heap[B]?=some (.cells (staL t).toArray 29 (0,0))∧StaOk t
 lt:w.heap.size+3≤B
 bel:Below w.heap.size w u
theorem QI.below{w u u':World}{B:Nat}{r x:Nat→Int}(h:QI w B r x u)(hb:Below u.heap.size u u'):QI w B r x u':=by
 have k:∀{j:Nat} {o:Obj},u.heap[j]?=some o→u'.heap[j]?=some o:=fun{j o} hj=>(hb.block j (Array.getElem?_eq_some_iff.1 hj).1).trans hj
 obtain⟨C,hC,hz⟩:=h.res
 obtain⟨t,ht,hok⟩:=h.st
 exact⟨k h.br,k h.bx,⟨C,k hC,hz⟩,⟨t,k ht,hok⟩,h.lt,h.bel.trans (hb.mono h.bel.size)⟩
theorem QI.put{w u:World}{B:Nat}{r x:Nat→Int}(h:QI w B r x u)(i:Nat)(v:Value)(hp:∀t,StaOk t→∃t',(staL t).toArray.setIfInBounds i v=(staL t').toArray∧StaOk t'):QI w B r x (u.setCell ⟨B,i,none⟩ v):=by
 have hlt:=h.lt
 have k:∀{j:Nat} {o:Obj},j≠B→u.heap[j]?=some o→(u.setCell ⟨B,i,none⟩ v).heap[j]?=some o:=fun{j o} hn hj=>(other_setCell hn i v).trans hj
 obtain⟨C,hC,hz⟩:=h.res
 obtain⟨t,ht,hok⟩:=h.st
 obtain⟨t',e,hok'⟩:=hp t hok
 exact⟨k (by omega) h.br,k (by omega) h.bx,⟨C,k (by omega) hC,hz⟩,⟨t',by rw[←e];exact block_setCell ht i v,hok'⟩,h.lt,h.bel.setCell (by show w.heap.size≤B;omega) v⟩
theorem put_r(i:Nat)(hi:i<8)(d:Int)(hd:0≤d∧d<4294967296)(t:Sta)(ht:StaOk t):∃t',(staL t).toArray.setIfInBounds i (.int .u32 d)=(staL t').toArray∧StaOk t':=
 ⟨_,sta_put t i hi d,put_ok ht.r hd i,ht.x,ht.ip⟩
theorem put_x(i:Nat)(hi:i<8)(d:Int)(hd:0≤d∧d<18446744073709551616)(t:Sta)(ht:StaOk t):∃t',(staL t).toArray.setIfInBounds (15+i) (.int .u64 d)=(staL t').toArray∧StaOk t':=
 ⟨_,sta_putX t i hi d,ht.r,put_ok ht.x hd i,ht.ip⟩
def QV(w:World)(B i:Nat)(r x:Nat→Int):Nat→Value→World→Prop
 |0,v,_=>v=.int .i64 i
 |1,v,_=>v=.int .i64 i
 |2,v,_=>v=.int .i64 i
 |3,v,_=>v=.pointer (some ⟨w.heap.size,i,none⟩)
 |4,v,_=>v=.int .u32 (r i)
 |5,v,_=>∃d:Int,v=.int .u32 d∧0≤d∧d<4294967296
 |6,v,_=>v=.int .i64 i
 |7,v,_=>v=.pointer (some ⟨w.heap.size+1,i,none⟩)
 |8,v,_=>v=.int .u64 (x i)
 |9,v,_=>∃d:Int,v=.int .u64 d∧0≤d∧d<18446744073709551616
 |10,v,_=>v=.pointer (some ⟨B,0,none⟩)
 |11,v,_=>v=.pointer (some ⟨B,i,none⟩)
 |13,v,_=>v=.pointer (some ⟨B,15,none⟩)
 |14,v,_=>v=.pointer (some ⟨B,15+i,none⟩)
 |_,_,_=>True
theorem qv_stays{w:World}{B i:Nat}{r x:Nat→Int}(n:Nat)(v:Value)(u u':World)(h:QV w B i r x n v u)(_:True):QV w B i r x n v u':=by
 unfold QV at h ⊢
 split at h
 all_goals exact h
end
section
open Go.ChangeShapes Go.WideShapes Go.ChangeAt Go.RowKit Go.Maps Go.Deep
set_option maxRecDepth 100000
def staQ(c p z s o d:Bool):Sta:=⟨fun _=>0,0,c,p,z,s,o,d,fun _=>0⟩
theorem staQ_ok(c p z s o d:Bool):StaOk (staQ c p z s o d):=⟨fun _ _=>⟨Int.le_refl _,(by decide:(0:Int)<4294967296)⟩,fun _ _=>⟨Int.le_refl _,(by decide:(0:Int)<18446744073709551616)⟩,⟨Int.le_refl _,(by decide:(0:Int)<4294967296)⟩⟩
theorem qi_new{w W w1 Y:World}{r x:Nat→Int}{t0 q:Sta}(h1:W.heap[w.heap.size]?=some (.cells (rowL_u32 r).toArray 23 (0,0)))(h2:W.heap[w.heap.size+1]?=some (.cells (rowL_u64 x).toArray 27 (0,0)))(h3:W.heap[w.heap.size+2]?=some (.cells (staL t0).toArray 29 (0,0)))(hb:Below w.heap.size w W)(b1:Below W.heap.size W w1)(hY:Y=(w1.alloc (.cells (staL t0).toArray 29)).setCells w1.heap.size 0 (staL q))(hq:StaOk q):QI w w1.heap.size r x Y:=by
 have l3:=(Array.getElem?_eq_some_iff.1 h3).1
 have l1:=b1.size
 have b2:Below W.heap.size W Y:=by
  rw[hY]
  exact below_setCells l1 _ _ _ (below_last b1 _)
 have k:∀{j:Nat} {o:Obj},W.heap[j]?=some o→Y.heap[j]?=some o:=fun{j o} hj=>(b2.block j (Array.getElem?_eq_some_iff.1 hj).1).trans hj
 refine⟨k h1,k h2,⟨_,k h3,rfl⟩,⟨q,?_,hq⟩,by omega,hb.trans (b2.mono hb.size)⟩
 rw[hY]
 have h:=block_setCells (T:=29) (staL q) 0 _ (staL t0).toArray (heap_0f w1 (.cells (staL t0).toArray 29))
 rw[setL_whole23 q t0]at h
 exact h
set_option maxHeartbeats 8000000
theorem seatstate_any(r x:Nat→Int)(hr:∀i,i<8→0≤r i∧r i<4294967296)(hx:∀i,i<8→0≤x i∧x i<18446744073709551616)(k z:Int)(k0:0≤k)(k1:k<256)(z0:0≤z)(z1:z<256)(w:World):
  Calls Tryz.prog 14 #[.agg (rowL_u32 r).toArray,.agg (rowL_u64 x).toArray,.int .u8 k,.int .u8 z] w fun e w'=>∃t,e=.returned (.agg (staL t).toArray)∧StaOk t∧Below w.heap.size w w':=by
 have HF:=Lib.hid (fun u=>seatflags_any k k0 k1 u)
 have HR:=Lib.hid hr
 have HX:=Lib.hid hx
 have HZ:=Lib.hid (And.intro z0 z1)
 clear hr hx k0 k1 z0 z1
 go_enter Tryz.func14,Tryz.ntmps14
 obtain⟨W,hW⟩:∃W,W=((w.alloc (.cells (rowL_u32 r).toArray 23)).alloc (.cells (rowL_u64 x).toArray 27)).alloc (.cells (staL (staQ false false false false false false)).toArray 29):=⟨_,rfl⟩
 have HW:=Lib.hid (show _∧_ from heap_three hW)
 go_upto_region 1 with fail
 show Code.wp _ _ _ _ (((w.alloc (.cells (rowL_u32 r).toArray 23)).alloc (.cells (rowL_u64 x).toArray 27)).alloc (.cells (staL (staQ false false false false false false)).toArray 29))
 rw[←hW]
 clear hW
 go_wp2_with fail
 ((with_reducible refine(HF.out _).mono ?_);rintro e w1 ⟨fc,fp,fz,fs,fo,fd,rfl,b1⟩)
 have HT:=Lib.hid (there_alloc_new w1 (staL (staQ false false false false false false)).toArray 29 23 (Nat.le_refl _))
 have HB1:=Lib.hid b1
 clear b1
 go_upto_region 2 with(refine store_row rfl 29 (.tmp 9) (.tmp 13) rfl w1.heap.size rfl (staL (staQ fc fp fz fs fo fd)) rfl _ Tryz.underlying29 rfl info_sta (sta_one _) HT.out ?_;intro Y hY hl;have HQ:=Lib.hid (qi_new HW.out.1 HW.out.2.1 HW.out.2.2.1 HW.out.2.2.2 HB1.out hY (staQ_ok _ _ _ _ _ _));clear hY hl)
 obtain⟨B,hB⟩:∃B,w1.heap.size=B:=⟨_,rfl⟩
 rw[hB]at HQ ⊢
 clear HW HT HB1 hB
 go_wp2_with fail
 go_loopw [10] (fun v wr=>∃i:Nat,i≤8∧v=.int .i64 i∧QI w B r x wr) (fun v _=>8-(intOf v).toNat)
 case atStart=>exact⟨0,by omega,rfl,HQ.out⟩
 case round=>
  obtain⟨i,hi,rfl,hq⟩:=hrel
  obtain⟨wo,rfl⟩:∃wo:World,wo=wr:=⟨_,rfl⟩
  by_cases hlt:i<8
  ·have hi8:(i:Int)<8:=by omega
   have hd:decide ((i:Int)<8)=true:=decide_eq_true hi8
   have HI:=Lib.hid hq
   clear hq HQ
   go_wp2_with fail
   refine wp_region_vals (by kernel_rfl) (fun n=>n==12 || n==15) (by kernel_rfl) (QI w B r x) (fun _ _=>True) (QV w B i r x) qv_stays (fun _=>trivial) (HI.out.below ((Below.refl _ _).drew)) ?_ ?_
   ·intro n op c u ho hinv hsz hbase hdep
    have hn:n<16:=(Array.getElem?_eq_some_iff.1 ho).1
    have b4:c.tmps.getD 4 undef=.pointer (some ⟨w.heap.size,0,none⟩):=hbase 4 (by kernel_rfl)
    have b5:c.tmps.getD 5 undef=.pointer (some ⟨w.heap.size+1,0,none⟩):=hbase 5 (by kernel_rfl)
    have b9:c.tmps.getD 9 undef=.pointer (some ⟨B,0,none⟩):=hbase 9 (by kernel_rfl)
    have b10:c.tmps.getD 10 undef=.int .i64 i:=hbase 10 (by kernel_rfl)
    clear hbase hsz hd
    rcases(show n=0∨n=1∨n=2∨n=3∨n=4∨n=5∨n=6∨n=7∨n=8∨n=9∨n=10∨n=11∨n=12∨n=13∨n=14∨n=15 by omega)with rfl|rfl|rfl|rfl|rfl|rfl|rfl|rfl|rfl|rfl|rfl|rfl|rfl|rfl|rfl|rfl
    ·cases ho
     exact wp_val (by simp[execOp,Act.eval,b10,go_sem]<;>rfl) ⟨_,rfl,hinv,trivial,rfl⟩
    ·cases ho
     exact wp_val (by simp[execOp,Act.eval,b10,go_sem]<;>rfl) ⟨_,rfl,hinv,trivial,rfl⟩
    ·cases ho
     exact wp_val (by simp[execOp,Act.eval,b10,go_sem]<;>rfl) ⟨_,rfl,hinv,trivial,rfl⟩
    ·cases ho
     have e2:c.tmps.getD 20 undef=.int .i64 i:=hdep 2 (by kernel_rfl)
     exact wp_val (by simp[execOp,Act.eval,b4,e2,hi8,go_sem]<;>rfl) ⟨_,rfl,hinv,trivial,rfl⟩
    ·cases ho
     have e3:c.tmps.getD 21 undef=.pointer (some ⟨w.heap.size,i,none⟩):=hdep 3 (by kernel_rfl)
     have hc:u.cell? ⟨w.heap.size,i,none⟩=some (.int .u32 (r i)):=(cell_block hinv.br i).1.trans (by simpa using rowL_u32_at r i hlt)
     exact wp_val (by simp[execOp,Act.eval,e3,hc,go_sem]<;>rfl) ⟨_,rfl,hinv,trivial,rfl⟩
    ·cases ho
     have e4:c.tmps.getD 22 undef=.int .u32 (r i):=hdep 4 (by kernel_rfl)
     refine wp_call (by simp[execOp,Act.eval,e4,go_sem]<;>rfl) ((seatword_any (r i) (HR.out i hlt).1 (HR.out i hlt).2 u).mono ?_)
     rintro e u' ⟨d,rfl,hd,hb⟩
     exact⟨_,rfl,_,rfl,hinv.below hb,trivial,d,rfl,hd⟩
    ·cases ho
     exact wp_val (by simp[execOp,Act.eval,b10,go_sem]<;>rfl) ⟨_,rfl,hinv,trivial,rfl⟩
    ·cases ho
     have e6:c.tmps.getD 24 undef=.int .i64 i:=hdep 6 (by kernel_rfl)
     exact wp_val (by simp[execOp,Act.eval,b5,e6,hi8,go_sem]<;>rfl) ⟨_,rfl,hinv,trivial,rfl⟩
    ·cases ho
     have e7:c.tmps.getD 25 undef=.pointer (some ⟨w.heap.size+1,i,none⟩):=hdep 7 (by kernel_rfl)
     have hc:u.cell? ⟨w.heap.size+1,i,none⟩=some (.int .u64 (x i)):=(cell_block hinv.bx i).1.trans (by simpa using rowL_u64_at x i hlt)
     exact wp_val (by simp[execOp,Act.eval,e7,hc,go_sem]<;>rfl) ⟨_,rfl,hinv,trivial,rfl⟩
    ·cases ho
     have e8:c.tmps.getD 26 undef=.int .u64 (x i):=hdep 8 (by kernel_rfl)
     obtain⟨m,hm⟩:=Int.eq_ofNat_of_zero_le (HX.out i hlt).1
     rw[hm]at e8
     refine wp_call (by simp[execOp,Act.eval,e8,go_sem]<;>rfl) ((seatdouble_any m (by have:=(HX.out i hlt).2;omega) u).mono ?_)
     rintro e u' ⟨d,hd,rfl,hb⟩
     exact⟨_,rfl,_,rfl,hinv.below hb,trivial,(d:Int),rfl,by omega,by omega⟩
    ·cases ho
     exact wp_val (by simp[execOp,Act.eval,b9,go_sem]<;>rfl) ⟨_,rfl,hinv,trivial,rfl⟩
    ·cases ho
     have e10:c.tmps.getD 28 undef=.pointer (some ⟨B,0,none⟩):=hdep 10 (by kernel_rfl)
     have e0:c.tmps.getD 18 undef=.int .i64 i:=hdep 0 (by kernel_rfl)
     exact wp_val (by simp[execOp,Act.eval,e10,e0,hi8,go_sem]<;>rfl) ⟨_,rfl,hinv,trivial,rfl⟩
    ·cases ho
     have e11:c.tmps.getD 29 undef=.pointer (some ⟨B,i,none⟩):=hdep 11 (by kernel_rfl)
     have e5:∃d:Int,c.tmps.getD 23 undef=.int .u32 d∧0≤d∧d<4294967296:=hdep 5 (by kernel_rfl)
     obtain⟨d,e5,hd⟩:=e5
     obtain⟨t,ht,hok⟩:=hinv.st
     have hc:u.cell? ⟨B,i,none⟩=some (.int .u32 (t.r i)):=(cell_block ht i).1.trans (by simpa using sta_r t i hlt)
     have hz:=(cell_block ht i).2
     exact wp_skip (u':=u.setCell ⟨B,i,none⟩ (.int .u32 d)) (by simp[execOp,Act.eval,e11,e5,hc,hz,go_sem]<;>rfl) ⟨undef,rfl,hinv.put i _ (fun t ht=>put_r i hlt d hd t ht),trivial,trivial⟩
    ·cases ho
     exact wp_val (by simp[execOp,Act.eval,b9,go_sem]<;>rfl) ⟨_,rfl,hinv,trivial,rfl⟩
    ·cases ho
     have e13:c.tmps.getD 30 undef=.pointer (some ⟨B,15,none⟩):=hdep 13 (by kernel_rfl)
     have e1:c.tmps.getD 19 undef=.int .i64 i:=hdep 1 (by kernel_rfl)
     exact wp_val (by simp[execOp,Act.eval,e13,e1,hi8,go_sem]<;>rfl) ⟨_,rfl,hinv,trivial,rfl⟩
    ·cases ho
     have e14:c.tmps.getD 31 undef=.pointer (some ⟨B,15+i,none⟩):=hdep 14 (by kernel_rfl)
     have e9:∃d:Int,c.tmps.getD 27 undef=.int .u64 d∧0≤d∧d<18446744073709551616:=hdep 9 (by kernel_rfl)
     obtain⟨d,e9,hd⟩:=e9
     obtain⟨t,ht,hok⟩:=hinv.st
     have hc:u.cell? ⟨B,15+i,none⟩=some (.int .u64 (t.x i)):=(cell_block ht (15+i)).1.trans (by simpa using sta_x t i hlt)
     have hz:=(cell_block ht (15+i)).2
     exact wp_skip (u':=u.setCell ⟨B,15+i,none⟩ (.int .u64 d)) (by simp[execOp,Act.eval,e14,e9,hc,hz,go_sem]<;>rfl) ⟨undef,rfl,hinv.put (15+i) _ (fun t ht=>put_x i hlt d hd t ht),trivial,trivial⟩
   ·intro f u hinv hV
    have HI2:=Lib.hid hinv
    clear hV hinv HI
    simp only[List.size_toArray,List.length_cons,List.length_nil,Nat.reduceAdd,laid,List.getElem?_toArray,List.getElem?_cons_zero,List.getElem?_cons_succ,Option.bind_some,Act.put,List.setIfInBounds_toArray,List.set_cons_zero,List.set_cons_succ]
    have hrb:=HR.out i hlt
    obtain⟨V,hV⟩:∃V,r i=V:=⟨_,rfl⟩
    have hc:u.cell? ⟨w.heap.size,i,none⟩=some (.int .u32 V):=(cell_block HI2.out.br i).1.trans (by rw[←hV];simpa using rowL_u32_at r i hlt)
    rw[hV]at hrb
    obtain⟨v0,v1⟩:=hrb
    clear hV
    cases hbt:(bits .and .u8 (z/2^i) 1==1)with
    |false=>
     go_wp2_with fail
     go_roundw
     case rel=>exact⟨i+1,by omega,by go_num,HI2.out⟩
     case measure=>simp[intOf];omega
    |true=>
     obtain⟨t,ht,hok⟩:=HI2.out.st
     have hcb:u.cell? ⟨B,i,none⟩=some (.int .u32 (t.r i)):=(cell_block ht i).1.trans (by simpa using sta_r t i hlt)
     have hfz:=(cell_block ht i).2
     have HY:=Lib.hid (HI2.out.put i (.int .u32 (V%300)) (fun t ht=>put_r i hlt (V%300) ⟨by omega,by omega⟩ t ht))
     generalize t.r i=tv at hcb
     clear ht hok
     go_wp2_with fail
     go_roundw
     case rel=>exact⟨i+1,by omega,by go_num,HY.out⟩
     case measure=>simp[intOf];omega
  ·have hd:decide ((i:Int)<8)=false:=decide_eq_false (by omega)
   obtain⟨t,ht,hok⟩:=hq.st
   obtain⟨C,hC,hz⟩:=hq.res
   have HST:=Lib.hid (range_in13 ht 0 (staL t) rfl)
   have HTH:=Lib.hid (show wo.there (w.heap.size+2) 0 23 from there_block hC 0 23 (by omega))
   have HOK:=Lib.hid (And.intro hok hq.bel)
   clear ht hC hz hok hq HQ
   go_wp2_with (first
    |(refine wpList_load_mid rfl 29 (.tmp 9) rfl B 0 rfl (staL t) _ HST.out Tryz.underlying29 rfl info_sta ?_)
    |(refine store_row rfl 29 (.tmp 8) (.tmp 44) rfl (w.heap.size+2) rfl (staL t) rfl _ Tryz.underlying29 rfl info_sta (sta_one t) HTH.out ?_;intro V hV hl;have HL:=Lib.hid hl;have HB:=Lib.hid (show Below w.heap.size w V by rw[hV];exact below_setCells (by omega) _ _ _ HOK.out.2);clear hV hl))
   exact bodyPost_ret (results_cell rfl rfl HL.out) rfl ⟨t,rfl,HOK.out.1,HB.out⟩
end
section
open Go.ChangeShapes Go.WideShapes Go.ChangeAt Go.RowKit
set_option maxRecDepth 100000
def AV15(b:Nat)(g:Int→Int)(pg:Int→Bool)(rb:Nat)(R:Nat→Prop)(c d:Sg):Nat→Value→World→Prop
 |0,x,_=>x=.pointer (some ⟨b,0,none⟩)
 |1,x,u=>∃p Fm,x=.pointer (some ⟨p,0,none⟩)∧PMem u p Fm g pg
 |2,x,u=>Slc .u8 u x 288 (fun i=>g (place 36848 i))
 |3,x,_=>x=.string (strOf 288 fun i=>g (place 36848 i))
 |4,x,_=>x=.pointer (some ⟨rb,0,none⟩)
 |5,x,_=>x=.pointer (some ⟨rb,0,none⟩)
 |6,x,_=>x=.pointer (some ⟨rb,0,none⟩)
 |7,x,u=>∃p B,x=.pointer (some ⟨p,0,none⟩)∧RAt u rb p B R g c d
 |8,x,u=>Slc .u8 u x 288 (fun i=>g (place 36848 i))
 |9,x,_=>x=.string (strOf 288 fun i=>g (place 36848 i))
 |10,x,_=>x=.bool true
 |11,x,_=>x=.bool true
 |12,x,_=>x=.pointer (some ⟨b,0,none⟩)
 |13,x,u=>∃p Fm,x=.pointer (some ⟨p,0,none⟩)∧PMem u p Fm g pg
 |14,x,u=>Slc .u8 u x 100 (fun i=>g (place 20464 i))
 |15,x,_=>x=.string (strOf 100 fun i=>g (place 20464 i))
 |16,x,_=>x=.pointer (some ⟨rb,0,none⟩)
 |17,x,_=>x=.pointer (some ⟨rb,0,none⟩)
 |18,x,_=>x=.pointer (some ⟨rb,0,none⟩)
 |19,x,u=>∃p B,x=.pointer (some ⟨p,0,none⟩)∧RAt u rb p B R g c d
 |20,x,u=>Slc .u8 u x 100 (fun i=>g (place 20464 i))
 |21,x,_=>x=.string (strOf 100 fun i=>g (place 20464 i))
 |22,x,_=>x=.bool true
 |23,x,_=>x=.bool true
 |24,x,_=>x=.bool true
 |_,_,_=>True
theorem run_conv15{P:Program}{o:Oper}{b:Act}{u:World}{t t':TypeId}{x:Operand}{v:Value}(ho:o.op=.convert t t' x)(h:(convert t t' (b.eval x)).run P u=.ok v u):(execOp b.eval o).run P u=.ok (.value v) u:=by
 unfold execOp
 rw[ho]
 simp only[Sem.run_bind,h,Result.andThen_ok,Sem.run_pure]
theorem av15_stays{b:Nat}{g:Int→Int}{pg:Int→Bool}{rb:Nat}{R:Nat→Prop}{c d:Sg}(i:Nat)(v:Value)(u u':World)(hv:AV15 b g pg rb R c d i v u)(hb:Below u.heap.size u u'):AV15 b g pg rb R c d i v u':=by
 unfold AV15 at hv ⊢
 split at hv
 all_goals first
  |exact hv
  |exact hv.below hb
  |(obtain⟨p,Fm,e,hp⟩:=hv;exact⟨p,Fm,e,hp.but (G:=fun _=>False) (But.of_below hb) (fun _ _ h=>h)⟩)
set_option maxHeartbeats 4000000
theorem alike15_low{w0 w:World}{b rb:Nat}{F R:Nat→Prop}{g:Int→Int}{pg:Int→Bool}{c d:Sg}(t:TwoB w0 w b F g pg rb R g c d):
  Calls Tryz.prog 18 #[.pointer (some ⟨b,0,none⟩),.pointer (some ⟨rb,0,none⟩)] w fun e w'=>e=.returned (.bool true)∧TwoB w0 w' b F g pg rb R g c d∧Below w.heap.size w w':=by
 have HT:=Lib.hid t
 clear t
 go_enter Tryz.func18,Tryz.ntmps18
 go_wp2_with fail
 refine wp_region_valsG (by kernel_rfl) (fun _=>false) (by kernel_rfl) (fun u=>TwoB w0 u b F g pg rb R g c d∧Below w.heap.size w u) (fun u u'=>Below u.heap.size u u') (AV15 b g pg rb R c d) av15_stays (fun _=>Below.refl _ _) ⟨HT.out.next ((Below.refl _ _).drew),(Below.refl _ _).drew⟩ ?_ ?_
 ·intro n op cc u ho hinv hsz hbase hdep
  have b0:cc.tmps.getD 0 undef=.pointer (some ⟨b,0,none⟩):=hbase 0 (by kernel_rfl)
  have b1:cc.tmps.getD 1 undef=.pointer (some ⟨rb,0,none⟩):=hbase 1 (by kernel_rfl)
  have hn:n<25:=(Array.getElem?_eq_some_iff.1 ho).1
  clear hbase hsz
  rcases(show n=0∨n=1∨n=2∨n=3∨n=4∨n=5∨n=6∨n=7∨n=8∨n=9∨n=10∨n=11∨n=12∨n=13∨n=14∨n=15∨n=16∨n=17∨n=18∨n=19∨n=20∨n=21∨n=22∨n=23∨n=24 by omega)with rfl|rfl|rfl|rfl|rfl|rfl|rfl|rfl|rfl|rfl|rfl|rfl|rfl|rfl|rfl|rfl|rfl|rfl|rfl|rfl|rfl|rfl|rfl|rfl|rfl
  ·have ho0:=ho
   cases ho
   refine wpOp_free ho0 rfl ?_
   exact wp_val (by simp[execOp,Act.eval,b0,go_sem]<;>rfl) ⟨_,rfl,hinv,Below.refl _ _,rfl⟩
  ·have ho0:=ho
   cases ho
   have e0:cc.tmps.getD 5 undef=.pointer (some ⟨b,0,none⟩):=hdep 0 (by kernel_rfl)
   refine wpOp_free ho0 rfl ?_
   refine wp_call (by simp[execOp,Act.eval,e0,go_sem]<;>rfl) ((bmemory_any b F g pg c d _ hinv.1.own.bus).mono ?_)
   rintro e u' ⟨p,Fm,rfl,_,hp,hb⟩
   exact⟨_,rfl,_,rfl,⟨hinv.1.next hb,below_step hinv.2 hb⟩,hb,p,Fm,rfl,hp⟩
  ·have ho0:=ho
   cases ho
   obtain⟨p,Fm,e1,hp⟩:=hdep 1 (by kernel_rfl)
   have e1:cc.tmps.getD 6 undef=.pointer (some ⟨p,0,none⟩):=e1
   refine wpOp_free ho0 rfl ?_
   refine wp_call (by simp[execOp,Act.eval,e1,go_sem]<;>rfl) ((mread_any p Fm g pg 36848 288 (by decide) (by decide) _ hp).mono ?_)
   rintro e u' ⟨v,rfl,hs,hb⟩
   exact⟨_,rfl,_,rfl,⟨hinv.1.next hb,below_step hinv.2 hb⟩,hb,hs⟩
  ·have ho0:=ho
   cases ho
   have e2:Slc .u8 u (cc.tmps.getD 7 undef) 288 (fun i=>g (place 36848 i)):=hdep 2 (by kernel_rfl)
   have hcv:=e2.str (fun i _=>hinv.1.ref.byte _)
   refine wpOp_free ho0 rfl ?_
   exact wp_val (v:=.string (strOf 288 fun i=>g (place 36848 i))) (run_conv15 rfl hcv) ⟨_,rfl,hinv,Below.refl _ _,rfl⟩
  ·have ho0:=ho
   cases ho
   refine wpOp_free ho0 rfl ?_
   exact wp_val (by simp[execOp,Act.eval,b1,go_sem]<;>rfl) ⟨_,rfl,hinv,Below.refl _ _,rfl⟩
  ·have ho0:=ho
   cases ho
   have e4:cc.tmps.getD 9 undef=.pointer (some ⟨rb,0,none⟩):=hdep 4 (by kernel_rfl)
   refine wpOp_free ho0 rfl ?_
   exact wp_val (by simp[execOp,Act.eval,e4,go_sem]<;>rfl) ⟨_,rfl,hinv,Below.refl _ _,rfl⟩
  ·have ho0:=ho
   cases ho
   have e5:cc.tmps.getD 10 undef=.pointer (some ⟨rb,0,none⟩):=hdep 5 (by kernel_rfl)
   refine wpOp_free ho0 rfl ?_
   exact wp_val (by simp[execOp,Act.eval,e5,go_sem]<;>rfl) ⟨_,rfl,hinv,Below.refl _ _,rfl⟩
  ·have ho0:=ho
   cases ho
   have e6:cc.tmps.getD 11 undef=.pointer (some ⟨rb,0,none⟩):=hdep 6 (by kernel_rfl)
   obtain⟨p,B,hR⟩:=hinv.1.ref
   have k0:u.cell? ⟨rb,0,none⟩=some (.pointer (some ⟨p,0,none⟩)):=(cell_block hR.bus 0).1
   refine wpOp_free ho0 rfl ?_
   exact wp_val (by simp[execOp,Act.eval,e6,k0,go_sem]<;>rfl) ⟨_,rfl,hinv,Below.refl _ _,p,B,rfl,hR⟩
  ·have ho0:=ho
   cases ho
   obtain⟨p,B,e7,hR⟩:=hdep 7 (by kernel_rfl)
   have e7:cc.tmps.getD 12 undef=.pointer (some ⟨p,0,none⟩):=e7
   refine wpOp_free ho0 rfl ?_
   refine wp_call (by simp[execOp,Act.eval,e7,go_sem]<;>rfl) ((rmread_any p B 4294967296 g 36848 288 _ hR.ptr hR.map).mono ?_)
   rintro e u' ⟨blk,rfl,_,_,hs,hb⟩
   exact⟨_,rfl,_,rfl,⟨hinv.1.next hb,below_step hinv.2 hb⟩,hb,.inr ⟨_,_,rfl,Nat.le_refl _,fun i hi=>by rw[show(⟨blk,0,none⟩:Addr).add i=⟨blk,i,none⟩by unfold Addr.add;split<;>simp_all];exact hs i hi⟩⟩
  ·have ho0:=ho
   cases ho
   have e8:Slc .u8 u (cc.tmps.getD 13 undef) 288 (fun i=>g (place 36848 i)):=hdep 8 (by kernel_rfl)
   have hcv:=e8.str (fun i _=>hinv.1.ref.byte _)
   refine wpOp_free ho0 rfl ?_
   exact wp_val (v:=.string (strOf 288 fun i=>g (place 36848 i))) (run_conv15 rfl hcv) ⟨_,rfl,hinv,Below.refl _ _,rfl⟩
  ·have ho0:=ho
   cases ho
   have e3:cc.tmps.getD 8 undef=.string (strOf 288 fun i=>g (place 36848 i)):=hdep 3 (by kernel_rfl)
   have e9:cc.tmps.getD 14 undef=.string (strOf 288 fun i=>g (place 36848 i)):=hdep 9 (by kernel_rfl)
   refine wpOp_free ho0 rfl ?_
   exact wp_val (by simp[execOp,Act.eval,e3,e9,go_sem]<;>rfl) ⟨_,rfl,hinv,Below.refl _ _,rfl⟩
  ·have ho0:=ho
   cases ho
   have e10:cc.tmps.getD 15 undef=.bool true:=hdep 10 (by kernel_rfl)
   refine wpOp_free ho0 rfl ?_
   exact wp_val (by simp[execOp,Act.eval,e10,go_sem]<;>rfl) ⟨_,rfl,hinv,Below.refl _ _,rfl⟩
  ·have ho0:=ho
   cases ho
   have hG:=hdep 11 (by kernel_rfl)
   refine wpOp_met ho0 11 true rfl hG ?_
   exact wp_val (by simp[execOp,Act.eval,b0,go_sem]<;>rfl) ⟨_,rfl,hinv,Below.refl _ _,rfl⟩
  ·have ho0:=ho
   cases ho
   have e12:cc.tmps.getD 17 undef=.pointer (some ⟨b,0,none⟩):=hdep 12 (by kernel_rfl)
   have hG:=hdep 11 (by kernel_rfl)
   refine wpOp_met ho0 11 true rfl hG ?_
   refine wp_call (by simp[execOp,Act.eval,e12,go_sem]<;>rfl) ((bmemory_any b F g pg c d _ hinv.1.own.bus).mono ?_)
   rintro e u' ⟨p,Fm,rfl,_,hp,hb⟩
   exact⟨_,rfl,_,rfl,⟨hinv.1.next hb,below_step hinv.2 hb⟩,hb,p,Fm,rfl,hp⟩
  ·have ho0:=ho
   cases ho
   obtain⟨p,Fm,e13,hp⟩:=hdep 13 (by kernel_rfl)
   have e13:cc.tmps.getD 18 undef=.pointer (some ⟨p,0,none⟩):=e13
   have hG:=hdep 11 (by kernel_rfl)
   refine wpOp_met ho0 11 true rfl hG ?_
   refine wp_call (by simp[execOp,Act.eval,e13,go_sem]<;>rfl) ((mread_any p Fm g pg 20464 100 (by decide) (by decide) _ hp).mono ?_)
   rintro e u' ⟨v,rfl,hs,hb⟩
   exact⟨_,rfl,_,rfl,⟨hinv.1.next hb,below_step hinv.2 hb⟩,hb,hs⟩
  ·have ho0:=ho
   cases ho
   have e14:Slc .u8 u (cc.tmps.getD 19 undef) 100 (fun i=>g (place 20464 i)):=hdep 14 (by kernel_rfl)
   have hcv:=e14.str (fun i _=>hinv.1.ref.byte _)
   have hG:=hdep 11 (by kernel_rfl)
   refine wpOp_met ho0 11 true rfl hG ?_
   exact wp_val (v:=.string (strOf 100 fun i=>g (place 20464 i))) (run_conv15 rfl hcv) ⟨_,rfl,hinv,Below.refl _ _,rfl⟩
  ·have ho0:=ho
   cases ho
   have hG:=hdep 11 (by kernel_rfl)
   refine wpOp_met ho0 11 true rfl hG ?_
   exact wp_val (by simp[execOp,Act.eval,b1,go_sem]<;>rfl) ⟨_,rfl,hinv,Below.refl _ _,rfl⟩
  ·have ho0:=ho
   cases ho
   have e16:cc.tmps.getD 21 undef=.pointer (some ⟨rb,0,none⟩):=hdep 16 (by kernel_rfl)
   have hG:=hdep 11 (by kernel_rfl)
   refine wpOp_met ho0 11 true rfl hG ?_
   exact wp_val (by simp[execOp,Act.eval,e16,go_sem]<;>rfl) ⟨_,rfl,hinv,Below.refl _ _,rfl⟩
  ·have ho0:=ho
   cases ho
   have e17:cc.tmps.getD 22 undef=.pointer (some ⟨rb,0,none⟩):=hdep 17 (by kernel_rfl)
   have hG:=hdep 11 (by kernel_rfl)
   refine wpOp_met ho0 11 true rfl hG ?_
   exact wp_val (by simp[execOp,Act.eval,e17,go_sem]<;>rfl) ⟨_,rfl,hinv,Below.refl _ _,rfl⟩
  ·have ho0:=ho
   cases ho
   have e18:cc.tmps.getD 23 undef=.pointer (some ⟨rb,0,none⟩):=hdep 18 (by kernel_rfl)
   obtain⟨p,B,hR⟩:=hinv.1.ref
   have k0:u.cell? ⟨rb,0,none⟩=some (.pointer (some ⟨p,0,none⟩)):=(cell_block hR.bus 0).1
   have hG:=hdep 11 (by kernel_rfl)
   refine wpOp_met ho0 11 true rfl hG ?_
   exact wp_val (by simp[execOp,Act.eval,e18,k0,go_sem]<;>rfl) ⟨_,rfl,hinv,Below.refl _ _,p,B,rfl,hR⟩
  ·have ho0:=ho
   cases ho
   obtain⟨p,B,e19,hR⟩:=hdep 19 (by kernel_rfl)
   have e19:cc.tmps.getD 24 undef=.pointer (some ⟨p,0,none⟩):=e19
   have hG:=hdep 11 (by kernel_rfl)
   refine wpOp_met ho0 11 true rfl hG ?_
   refine wp_call (by simp[execOp,Act.eval,e19,go_sem]<;>rfl) ((rmread_any p B 4294967296 g 20464 100 _ hR.ptr hR.map).mono ?_)
   rintro e u' ⟨blk,rfl,_,_,hs,hb⟩
   exact⟨_,rfl,_,rfl,⟨hinv.1.next hb,below_step hinv.2 hb⟩,hb,.inr ⟨_,_,rfl,Nat.le_refl _,fun i hi=>by rw[show(⟨blk,0,none⟩:Addr).add i=⟨blk,i,none⟩by unfold Addr.add;split<;>simp_all];exact hs i hi⟩⟩
  ·have ho0:=ho
   cases ho
   have e20:Slc .u8 u (cc.tmps.getD 25 undef) 100 (fun i=>g (place 20464 i)):=hdep 20 (by kernel_rfl)
   have hcv:=e20.str (fun i _=>hinv.1.ref.byte _)
   have hG:=hdep 11 (by kernel_rfl)
   refine wpOp_met ho0 11 true rfl hG ?_
   exact wp_val (v:=.string (strOf 100 fun i=>g (place 20464 i))) (run_conv15 rfl hcv) ⟨_,rfl,hinv,Below.refl _ _,rfl⟩
  ·have ho0:=ho
   cases ho
   have e15:cc.tmps.getD 20 undef=.string (strOf 100 fun i=>g (place 20464 i)):=hdep 15 (by kernel_rfl)
   have e21:cc.tmps.getD 26 undef=.string (strOf 100 fun i=>g (place 20464 i)):=hdep 21 (by kernel_rfl)
   have hG:=hdep 11 (by kernel_rfl)
   refine wpOp_met ho0 11 true rfl hG ?_
   exact wp_val (by simp[execOp,Act.eval,e15,e21,go_sem]<;>rfl) ⟨_,rfl,hinv,Below.refl _ _,rfl⟩
  ·have ho0:=ho
   cases ho
   have e11:cc.tmps.getD 16 undef=.bool true:=hdep 11 (by kernel_rfl)
   have e22:cc.tmps.getD 27 undef=.bool true:=hdep 22 (by kernel_rfl)
   refine wpOp_free ho0 rfl ?_
   exact wp_val (by simp[execOp,Act.eval,e11,e22,go_sem]<;>rfl) ⟨_,rfl,hinv,Below.refl _ _,rfl⟩
  ·have ho0:=ho
   cases ho
   have e23:cc.tmps.getD 28 undef=.bool true:=hdep 23 (by kernel_rfl)
   refine wpOp_free ho0 rfl ?_
   exact wp_val (by simp[execOp,Act.eval,e23,go_sem]<;>rfl) ⟨_,rfl,hinv,Below.refl _ _,rfl⟩
 ·intro f u hinv hV
  have q24:f 24=.bool true:=hV 24 (by decide)
  generalize hc:laid _ f _ _=cc
  have b4:cc.tmps.getD 4 undef=.bool true:=by rw[←hc,←q24];kernel_rfl
  have bd:cc.defers=[]:=by rw[←hc];kernel_rfl
  have HI:=Lib.hid hinv
  clear hc hV q24 hinv
  go_wp2_with fail
  refine bodyPost_ret (v:=.bool true) ?_ bd ⟨rfl,HI.out⟩
  have hr:Tryz.f18.results=#[.tmp 4]:=by kernel_rfl
  unfold results
  rw[hr]
  rw[Array.getD_eq_getD_getElem?]at b4
  simpa using b4
theorem alike15_any{w0 w:World}{b rb:Nat}{F R:Nat→Prop}{g:Int→Int}{pg:Int→Bool}{c d:Sg}(t:TwoB w0 w b F g pg rb R g c d):
  Calls Tryz.prog 18 #[.pointer (some ⟨b,0,none⟩),.pointer (some ⟨rb,0,none⟩)] w fun e w'=>e=.returned (.bool true)∧TwoB w0 w' b F g pg rb R g c d:=
 (alike15_low t).mono fun _ _ ⟨h1,h2,_⟩=>⟨h1,h2⟩
end
section
open Go.ChangeShapes Go.WideShapes Go.ChangeAt Go.RowKit
set_option maxRecDepth 100000
theorem sta_eql(w:World)(s:Sta)(hs:WfS s):(binOp .eql 29 (staV s) (staV s)).run Tryz.prog w=.ok (.bool true) w:=by
 obtain⟨r,hr,hi⟩:=sta_eqR w s s hs hs
 have:r=true:=hi.2 rfl
 subst this
 exact hr
theorem wpList_eql_sta{ops:Array Oper}{rest:List Oper}{op:Oper}{a:Act}{w:World}{Q:Exit→Act→World→Prop}(hgd:op.guard=none)(x y:Operand)(ho:op.op=.binOp .eql 29 x y 29)(s:Sta)(hs:WfS s)(hx:a.eval x=staV s)(hy:a.eval y=staV s)
  (hK:wpList Tryz.prog ops Q rest (a.put op.dst (.bool true)) w):wpList Tryz.prog ops Q (op :: rest) a w:=
 wpList_plain hgd fun _ hh=>by
  have hg:(eqGuard .eql 29 x y (staV s) (staV s)).run Tryz.prog w=.ok () w:=run_eqGuard_agg w .eql 29 x y _ _ sta_guard1
  unfold Oper.wp execOp
  rw[ho]
  simp only[Sem.run_bind,hx,hy,hg,Result.andThen_ok,sta_eql w s hs,Sem.run_pure]
  exact hh _ _ hK
end
end Go.Proofs.YtmdncgfheeijaaaGreat
