import Derived.WideMake
import Derived.Carry
import Derived.RegionTactic
import Derived.ChangeAlike
import Derived.Test.YtmdncgfheeijaaaGreatKVG19
namespace Go.Proofs.YtmdncgfheeijaaaGreat
section
open Go.ChangeShapes Go.WideShapes Go.ChangeAt Go.RowKit
set_option maxRecDepth 100000
def dirB(s:Sta)(op:Int):Bool:=if op=44 then false else if op=45 then true else s.d
def AluT(g:Int→Int)(dd:Sg)(s:Sta)(I:Ins):Sta:=if aluE g dd s I=0 then{ aluT g dd s I with d:=dirB s I.op }else s
theorem AI.far{w:World}{rb:Nat}{R:Nat→Prop}{g:Int→Int}{cc dd:Sg}{t:Sta}{I:Ins}{u Y:World}(h:AI w rb R g cc dd t I u)(j:Nat)(hj:w.heap.size+3≤j)(hb:But (·=j) u Y):AI w rb R g cc dd t I Y:=by
 have k:∀{i:Nat} {x:Obj},i≠j→u.heap[i]?=some x→Y.heap[i]?=some x:=fun{i x} hl hi=>(hb.block i (Array.getElem?_eq_some_iff.1 hi).1 hl).trans hi
 obtain⟨C,hC,hz⟩:=h.br
 obtain⟨q1,q2⟩:=h.bfar j (by omega) hb
 exact⟨k (by omega) h.bt,k (by omega) h.bi,⟨C,k (by omega) hC,hz⟩,q1,h.own,q2⟩
set_option maxHeartbeats 40000000
theorem rAlu13_any(HDN:RDoneC)(rb:Nat)(R:Nat→Prop)(g:Int→Int)(cc dd:Sg)(s:Sta)(I:Ins)(hs:StaOk s)(hA:0≤I.a.disp∧I.a.disp<4294967296)(hB:0≤I.b.disp∧I.b.disp<4294967296)(hc:0≤I.c∧I.c<4294967296)(w:World)(hR:RBus w rb R g cc dd):
  Calls Tryz.prog 29 #[.pointer (some ⟨rb,0,none⟩),staV s,insV I] w fun e w'=>e=.returned (.tuple #[staV (AluT g dd s I),.int .i64 (aluE g dd s I)])∧RBus w' rb R (aluG g dd s I) cc dd∧But R w w':=by
 have HAL:=Lib.hid (fun u hu=>ralu13_any HDN rb R g cc dd s I hs hA hB hc u hu)
 have HR:=Lib.hid hR
 obtain⟨T,hT⟩:∃z,aluT g dd s I=z:=⟨_,rfl⟩
 obtain⟨E,hE⟩:∃z,aluE g dd s I=z:=⟨_,rfl⟩
 obtain⟨G,hG⟩:∃z,aluG g dd s I=z:=⟨_,rfl⟩
 obtain⟨FT0,hFT⟩:∃z,AluT g dd s I=z:=⟨_,rfl⟩
 have HFT:=Lib.hid (show FT0=if E=0 then{ T with d:=dirB s I.op }else s by rw[←hFT,←hT,←hE];rfl)
 rw[hT,hE,hG]at HAL
 rw[hFT,hE,hG]
 obtain⟨op,cond,n,⟨ak,ar,ab,ai,ac,ad⟩,⟨bk,br,bb,bi,bc,bd⟩,c,rep,len⟩:=I
 rw[show staV s=.agg (staL s).toArray from rfl,show insV (⟨op,cond,n,⟨ak,ar,ab,ai,ac,ad⟩,⟨bk,br,bb,bi,bc,bd⟩,c,rep,len⟩:Ins)=.agg (insL ⟨op,cond,n,⟨ak,ar,ab,ai,ac,ad⟩,⟨bk,br,bb,bi,bc,bd⟩,c,rep,len⟩).toArray from rfl,show staV T=.agg (staL T).toArray from rfl]at HAL
 clear hT hE hG hFT hs hA hB hc hR
 unfold staV insV insC
 go_enter Tryz.func29,Tryz.ntmps29
 go_upto_region 1 with fail
 obtain⟨W,hW⟩:∃W,W=((w.alloc (.cells (staL s).toArray 29)).alloc (.cells #[.int .i64 op,.int .i64 cond,.int .i64 n,.int .i64 ak,.int .i64 ar,.int .i64 ab,.int .i64 ai,.int .i64 ac,.int .u32 ad,.int .i64 bk,.int .i64 br,.int .i64 bb,.int .i64 bi,.int .i64 bc,.int .u32 bd,.int .u32 c,.bool rep,.int .i64 len] 34)).alloc (.cells #[.int .u32 0,.int .u32 0,.int .u32 0,.int .u32 0,.int .u32 0,.int .u32 0,.int .u32 0,.int .u32 0,.int .u32 0,.bool false,.bool false,.bool false,.bool false,.bool false,.bool false,.int .u64 0,.int .u64 0,.int .u64 0,.int .u64 0,.int .u64 0,.int .u64 0,.int .u64 0,.int .u64 0] 29):=⟨_,rfl⟩
 have hsz:W.heap.size=w.heap.size+3:=by rw[hW];simp
 rw[←hW]
 obtain⟨h1,h2,h3,hbel⟩:=heap_three hW
 have HD:=Lib.hid (show AI w rb R g cc dd s ⟨op,cond,n,⟨ak,ar,ab,ai,ac,ad⟩,⟨bk,br,bb,bi,bc,bd⟩,c,rep,len⟩ W from⟨h1,h2,⟨_,h3,rfl⟩,HR.out.below hbel,fun j hj=>HR.out.lt j hj,But.of_below hbel⟩)
 clear hW h1 h2 h3 hbel
 go_wp2_with (first
  |(refine wpList_load_mid rfl 29 (.tmp 4) rfl w.heap.size 0 rfl (staL s) _ HD.out.rt Tryz.underlying29 rfl info_sta ?_)
  |(refine wpList_load_mid rfl 34 (.tmp 5) rfl (w.heap.size+1) 0 rfl (insL ⟨op,cond,n,⟨ak,ar,ab,ai,ac,ad⟩,⟨bk,br,bb,bi,bc,bd⟩,c,rep,len⟩) _ HD.out.rin Tryz.underlying34 rfl info_ins ?_))
 ((with_reducible refine(HAL.out _ HD.out.bus).mono ?_);rintro e w1 ⟨rfl,r1,b1⟩)
 have HD1:=Lib.hid (HD.out.wrote r1 b1)
 have HSZ:=Lib.hid (show w.heap.size+3≤w1.heap.size by have:=b1.size;omega)
 have HTH:=Lib.hid (there_alloc_new w1 #[.int .u32 0,.int .u32 0,.int .u32 0,.int .u32 0,.int .u32 0,.int .u32 0,.int .u32 0,.int .u32 0,.int .u32 0,.bool false,.bool false,.bool false,.bool false,.bool false,.bool false,.int .u64 0,.int .u64 0,.int .u64 0,.int .u64 0,.int .u64 0,.int .u64 0,.int .u64 0,.int .u64 0] 29 23 (by decide))
 clear r1 b1 hsz
 go_upto_region 2 with(refine store_row rfl 29 (.tmp 8) (.tmp 15) rfl w1.heap.size rfl (staL T) rfl _ Tryz.underlying29 rfl info_sta (sta_one T) HTH.out ?_;intro Y hY hl;clear hl;have HY:=Lib.hid hY;clear hY)
 have hb8:Y.heap[w1.heap.size]?=some (.cells (staL T).toArray 29 (0,0)):=by
  have h4:(w1.alloc (.cells #[.int .u32 0,.int .u32 0,.int .u32 0,.int .u32 0,.int .u32 0,.int .u32 0,.int .u32 0,.int .u32 0,.int .u32 0,.bool false,.bool false,.bool false,.bool false,.bool false,.bool false,.int .u64 0,.int .u64 0,.int .u64 0,.int .u64 0,.int .u64 0,.int .u64 0,.int .u64 0,.int .u64 0] 29)).heap[w1.heap.size]?=some (.cells #[.int .u32 0,.int .u32 0,.int .u32 0,.int .u32 0,.int .u32 0,.int .u32 0,.int .u32 0,.int .u32 0,.int .u32 0,.bool false,.bool false,.bool false,.bool false,.bool false,.bool false,.int .u64 0,.int .u64 0,.int .u64 0,.int .u64 0,.int .u64 0,.int .u64 0,.int .u64 0,.int .u64 0] 29 (0,0)):=by show(w1.heap.push _)[w1.heap.size]?=_;simp
  have h5:=block_setCells (staL T) 0 _ _ h4
  rw[←HY.out,setL_whole T (by rfl)]at h5
  exact h5
 have HB8:=Lib.hid hb8
 have HDY:=Lib.hid (HD1.out.below (show Below w1.heap.size w1 Y by rw[HY.out];exact below_setCells (Nat.le_refl _) _ _ _ (below_last (Below.refl _ _) _)))
 clear hb8
 by_cases hE0:E=0
 ·subst hE0
  have HFT1:=Lib.hid (HFT.out.trans (if_pos rfl))
  clear HFT
  have hd:Y.cell? ⟨w.heap.size,14,none⟩=some (.bool s.d):=(cell_block HDY.out.bt 14).1
  have h8:Y.cell? ⟨w1.heap.size,14,none⟩=some (.bool T.d):=(cell_block HB8.out 14).1
  have f8:=(cell_block HB8.out 14).2
  have ko:Y.cell? ⟨w.heap.size+1,0,none⟩=some (.int .i64 op):=(cell_block HDY.out.bi 0).1
  go_upto_region 5 with fail
  obtain⟨Z,hZ⟩:∃Z,Z=Y.setCell ⟨w1.heap.size,14,none⟩ (.bool s.d):=⟨_,rfl⟩
  rw[←hZ]
  have HZ:=Lib.hid (show Z.heap[w1.heap.size]?=some (.cells (staL { T with d:=s.d }).toArray 29 (0,0))by rw[hZ];exact block_setCell HB8.out 14 (.bool s.d))
  have HDZ:=Lib.hid (HDY.out.far w1.heap.size HSZ.out (show But (·=w1.heap.size) Y Z by rw[hZ];exact(But.refl (·=w1.heap.size) Y).setCell (fun _=>rfl) _))
  clear hZ hd h8 f8 ko
  have h8:Z.cell? ⟨w1.heap.size,14,none⟩=some (.bool s.d):=(cell_block HZ.out 14).1
  have f8:=(cell_block HZ.out 14).2
  have ko:Z.cell? ⟨w.heap.size+1,0,none⟩=some (.int .i64 op):=(cell_block HDZ.out.bi 0).1
  by_cases h44:op=44
  ·subst h44
   have HT1:=Lib.hid (show FT0={ T with d:=false }from HFT1.out)
   clear HFT1
   go_upto_region 7 with fail
   obtain⟨Z2,hZ⟩:∃V,V=Z.setCell ⟨w1.heap.size,14,none⟩ (.bool false):=⟨_,rfl⟩
   rw[←hZ]
   have HZ2:=Lib.hid (show Z2.heap[w1.heap.size]?=some (.cells (staL { T with d:=false }).toArray 29 (0,0))by rw[hZ];exact block_setCell HZ.out 14 (.bool false))
   have HDZ2:=Lib.hid (HDZ.out.far w1.heap.size HSZ.out (show But (·=w1.heap.size) Z Z2 by rw[hZ];exact(But.refl (·=w1.heap.size) Z).setCell (fun _=>rfl) _))
   clear hZ h8 f8 ko
   have ko:Z2.cell? ⟨w.heap.size+1,0,none⟩=some (.int .i64 44):=(cell_block HDZ2.out.bi 0).1
   go_wp2_with (first
    |(refine wpList_load_mid rfl 29 (.tmp 8) rfl w1.heap.size 0 rfl (staL { T with d:=false }) _ (range_in13 HZ2.out 0 _ rfl) Tryz.underlying29 rfl info_sta ?_)
    |(refine store_row rfl 29 (.tmp 6) (.tmp 36) rfl (w.heap.size+2) rfl (staL { T with d:=false }) rfl _ Tryz.underlying29 rfl info_sta (sta_one { T with d:=false }) HDZ2.out.hasr ?_;intro V hV hl;have HL:=Lib.hid hl;have HV:=Lib.hid (HDZ2.out.res hV);clear hV hl))
   exact bodyPost_ret (results_cell_tmp rfl rfl rfl HL.out) rfl ⟨by rw[HT1.out];rfl,HV.out.bus,HV.out.but⟩
  have e44:(op==44)=false:=by simpa using h44
  by_cases h45:op=45
  ·subst h45
   have HT1:=Lib.hid (show FT0={ T with d:=true }from HFT1.out)
   clear HFT1
   go_upto_region 9 with fail
   obtain⟨Z2,hZ⟩:∃V,V=Z.setCell ⟨w1.heap.size,14,none⟩ (.bool true):=⟨_,rfl⟩
   rw[←hZ]
   have HZ2:=Lib.hid (show Z2.heap[w1.heap.size]?=some (.cells (staL { T with d:=true }).toArray 29 (0,0))by rw[hZ];exact block_setCell HZ.out 14 (.bool true))
   have HDZ2:=Lib.hid (HDZ.out.far w1.heap.size HSZ.out (show But (·=w1.heap.size) Z Z2 by rw[hZ];exact(But.refl (·=w1.heap.size) Z).setCell (fun _=>rfl) _))
   clear hZ h8 f8 ko
   have ko:Z2.cell? ⟨w.heap.size+1,0,none⟩=some (.int .i64 45):=(cell_block HDZ2.out.bi 0).1
   go_wp2_with (first
    |(refine wpList_load_mid rfl 29 (.tmp 8) rfl w1.heap.size 0 rfl (staL { T with d:=true }) _ (range_in13 HZ2.out 0 _ rfl) Tryz.underlying29 rfl info_sta ?_)
    |(refine store_row rfl 29 (.tmp 6) (.tmp 36) rfl (w.heap.size+2) rfl (staL { T with d:=true }) rfl _ Tryz.underlying29 rfl info_sta (sta_one { T with d:=true }) HDZ2.out.hasr ?_;intro V hV hl;have HL:=Lib.hid hl;have HV:=Lib.hid (HDZ2.out.res hV);clear hV hl))
   exact bodyPost_ret (results_cell_tmp rfl rfl rfl HL.out) rfl ⟨by rw[HT1.out];rfl,HV.out.bus,HV.out.but⟩
  have e45:(op==45)=false:=by simpa using h45
  have HT1:=Lib.hid (show FT0={ T with d:=s.d }by rw[HFT1.out];unfold dirB;rw[if_neg h44,if_neg h45])
  clear h44 h45 HFT1
  go_wp2_with (first
   |(refine wpList_load_mid rfl 29 (.tmp 8) rfl w1.heap.size 0 rfl (staL { T with d:=s.d }) _ (range_in13 HZ.out 0 _ rfl) Tryz.underlying29 rfl info_sta ?_)
   |(refine store_row rfl 29 (.tmp 6) (.tmp 36) rfl (w.heap.size+2) rfl (staL { T with d:=s.d }) rfl _ Tryz.underlying29 rfl info_sta (sta_one { T with d:=s.d }) HDZ.out.hasr ?_;intro V hV hl;have HL:=Lib.hid hl;have HV:=Lib.hid (HDZ.out.res hV);clear hV hl))
  exact bodyPost_ret (results_cell_tmp rfl rfl rfl HL.out) rfl ⟨by rw[HT1.out];rfl,HV.out.bus,HV.out.but⟩
 ·have en:(E != 0)=true:=by simpa using hE0
  have HFT1:=Lib.hid (HFT.out.trans (if_neg hE0))
  clear HFT
  clear hE0
  go_wp2_with (first
   |(refine wpList_load_mid rfl 29 (.tmp 4) rfl w.heap.size 0 rfl (staL s) _ HDY.out.rt Tryz.underlying29 rfl info_sta ?_)
   |(refine store_row rfl 29 (.tmp 6) (.tmp 19) rfl (w.heap.size+2) rfl (staL s) rfl _ Tryz.underlying29 rfl info_sta (sta_one s) HDY.out.hasr ?_;intro V hV hl;have HL:=Lib.hid hl;have HV:=Lib.hid (HDY.out.res hV);clear hV hl))
  exact bodyPost_ret (results_cell_tmp rfl rfl rfl HL.out) rfl ⟨by rw[HFT1.out];rfl,HV.out.bus,HV.out.but⟩
end
section
open Go.RowKit
set_option maxRecDepth 100000
theorem set_top(w:World)(o o':Obj):({ (w.alloc o)with heap:=(w.alloc o).heap.setIfInBounds w.heap.size o' }:World)=w.alloc o':=by
 have h:(w.heap.push o).setIfInBounds w.heap.size o'=w.heap.push o':=by
  apply Array.ext_getElem?
  intro i
  simp only[Array.getElem?_setIfInBounds,Array.getElem?_push,Array.size_push]
  by_cases e:w.heap.size=i
  ·subst e;simp
  ·rw[if_neg e,if_neg (fun h=>e h.symm),if_neg (fun h=>e h.symm)]
 show({ w with heap:=(w.heap.push o).setIfInBounds w.heap.size o' }:World)={ w with heap:=w.heap.push o' }
 rw[h]
theorem litmap_put{P:Program}(w:World)(B:Nat)(hB:B=w.heap.size)(mty kt et:TypeId)(k:IntKind)(es:Array MapEntry)(clock:Nat)(key:Int)(val:Value)(hm:P.underlying mty=some (.map kt et))(hk:P.underlying kt=some (.int k))(hf:Instr.findNow (.int k) (.int k key) es.toList 0=some none):
  (Instr.mapUpdate mty (.map (some B)) (.int k key) val).run P (w.alloc (.map es clock))=.ok () (w.alloc (.map (es.push { key:=.int k key,val:=val,born:=clock }) (clock+1))):=by
 subst hB
 have hb:(w.alloc (.map es clock)).heap[w.heap.size]?=some (.map es clock):=by show(w.heap.push _)[w.heap.size]?=_;simp
 have hc:(Instr.checkKey false 10000 kt (.int k key)).run P (w.alloc (.map es clock))=.ok () (w.alloc (.map es clock)):=MapKept.run_checkKey (k:=.int k key) hk (by simp[MapKept.IsKey]) false 9999
 simp[Instr.mapUpdate,run_underlying hm,MapKept.run_getObj_map hb,hc,MapKept.run_findKey hk hf,MapKept.run_setObj_map _ hb,Result.andThen]
 exact set_top w _ _
theorem litmap_get{P:Program}(w:World)(B:Nat)(hB:B=w.heap.size)(mty kt et:TypeId)(k:IntKind)(es:Array MapEntry)(clock:Nat)(key:Int)(val:Value)(i:Nat)(hm:P.underlying mty=some (.map kt et))(hk:P.underlying kt=some (.int k))(hf:Instr.findNow (.int k) (.int k key) es.toList 0=some (some (i,val))):
  (Instr.lookup mty (.map (some B)) (.int k key) false).run P (w.alloc (.map es clock))=.ok val (w.alloc (.map es clock)):=by
 subst hB
 have hb:(w.alloc (.map es clock)).heap[w.heap.size]?=some (.map es clock):=by show(w.heap.push _)[w.heap.size]?=_;simp
 have hc:∀e,(Instr.checkKey e 10000 kt (.int k key)).run P (w.alloc (.map es clock))=.ok () (w.alloc (.map es clock)):=fun e=>MapKept.run_checkKey (k:=.int k key) hk (by simp[MapKept.IsKey]) e 9999
 simp[Instr.lookup,run_underlying hm,MapKept.run_getObj_map hb,hc,MapKept.run_findKey hk hf,Result.andThen]
end
section
open Go.ChangeShapes Go.WideShapes Go.ChangeAt Go.RowKit
set_option maxRecDepth 100000
def secondF(p c:Int):Frm×Bool:=
 if p=0 then
  if 64≤c∧c<80 then(⟨36,c%16,4,[71,69],0⟩,true)
  else if 128≤c∧c<144 then(⟨31,c%16,0,[105],0⟩,true)
  else if 144≤c∧c<160 then(⟨35,c%16,1,[69],0⟩,true)
  else if c=175 then(⟨25,0,4,[71,69],0⟩,true)
  else if c=182∨c=183 then(⟨19,0,1+c%2,[103,69],0⟩,true)
  else if c=190∨c=191 then(⟨20,0,1+c%2,[103,69],0⟩,true)
  else(nilF,false)
 else if p=242 then
  if c=16 then(⟨51,0,8,[88,89],0⟩,true)
  else if c=17 then(⟨51,0,8,[89,88],0⟩,true)
  else if c=42 then(⟨59,0,4,[88,101],0⟩,true)
  else if c=44 then(⟨60,0,8,[103,89],0⟩,true)
  else if c=81 then(⟨58,0,8,[88,89],0⟩,true)
  else if c=88 then(⟨52,0,8,[88,89],0⟩,true)
  else if c=89 then(⟨53,0,8,[88,89],0⟩,true)
  else if c=92 then(⟨54,0,8,[88,89],0⟩,true)
  else if c=93 then(⟨55,0,8,[88,89],0⟩,true)
  else if c=94 then(⟨56,0,8,[88,89],0⟩,true)
  else if c=95 then(⟨57,0,8,[88,89],0⟩,true)
  else(⟨0,0,8,[],0⟩,false)
 else if c=46 then(⟨61,0,8,[88,89],0⟩,true)
 else(nilF,false)
def secL(x:Frm×Bool):Value:=.tuple #[.agg #[.int .i64 x.1.op,.int .i64 x.1.cond,.int .i64 x.1.size,.string ⟨x.1.how.toArray⟩,.int .i64 x.1.c],.bool x.2]
end
section
set_option maxRecDepth 100000
def goF(L:Nat)(bs:Nat→Int)(f:Frm)(rep:Bool)(k:Nat):Ins×Int:=
 if hasF f.how then
  match rmF (L-k) (fun i=>bs (k+i))with
  |none=>(zeroI,21)
  |some (o,r,n)=>madeF ⟨f.op,f.cond,f.size,noneO,noneO,0,rep,0⟩ f o r L bs (k+n)
 else madeF ⟨f.op,f.cond,f.size,noneO,noneO,0,rep,0⟩ f zeroO 0 L bs k
def twoF(L:Nat)(bs:Nat→Int)(p:Int)(k:Nat):Ins×Int:=
 if L≤k then(zeroI,21)else if(secondF p (bs k)).2 then goF L bs (secondF p (bs k)).1 false (k+1)else(zeroI,22)
def oneF(L:Nat)(bs:Nat→Int):Ins×Int:=
 if L=0 then(zeroI,21)
 else if bs 0=243 then
  if L<2 then(zeroI,21)
  else if bs 1=164∨bs 1=165∨bs 1=170∨bs 1=171 then goF L bs (firstF (bs 1) (-1) false).1 true 2
  else(zeroI,22)
 else if bs 0=15 then twoF L bs 0 1
 else if bs 0=242∨bs 0=102 then
  if L<2 then(zeroI,21)else if bs 1=15 then twoF L bs (bs 0) 2 else(zeroI,22)
 else if(firstF (bs 0) (behF L bs 1) (behM L bs 1)).2.2 then(zeroI,21)
 else if(firstF (bs 0) (behF L bs 1) (behM L bs 1)).2.1 then goF L bs (firstF (bs 0) (behF L bs 1) (behM L bs 1)).1 false 1
 else(zeroI,22)
end
section
set_option maxRecDepth 100000
theorem rm_three{L:Nat}{bs:Nat→Int}{o:Opd}{r:Int}{n:Nat}(h:rmF L bs=some (o,r,n)):n≤L∧(o.kind=if bs 0/64=3 then 1 else 3):=by
 unfold rmF at h
 split at h
 ·cases h
 ·rename_i h0
  split at h
  ·rename_i h3
   injection h with h
   injection h with h h'
   injection h' with h1 h2
   subst h h2
   exact⟨by omega,by rw[if_pos h3]⟩
  ·rename_i h3
   split at h
   ·split at h
    ·cases h
    ·split at h
     ·cases h
     ·injection h with h
      injection h with h h'
      injection h' with h1 h2
      subst h h2
      exact⟨by omega,by rw[if_neg h3]⟩
   ·split at h
    ·cases h
    ·injection h with h
     injection h with h h'
     injection h' with h1 h2
     subst h h2
     exact⟨by omega,by rw[if_neg h3]⟩
end
end Go.Proofs.YtmdncgfheeijaaaGreat
