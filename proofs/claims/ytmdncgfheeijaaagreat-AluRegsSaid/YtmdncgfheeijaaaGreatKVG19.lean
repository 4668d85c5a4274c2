import Derived.Test.YtmdncgfheeijaaaGreatKVG18
namespace Go.Proofs.YtmdncgfheeijaaaGreat
open Go.ChangeShapes Go.WideShapes Go.ChangeAt Go.RowKit
set_option maxRecDepth 100000
structure AI (w:World) (rb:Nat) (R:Nat→Prop) (g:Int→Int) (cc dd:Sg) (t:Sta) (I:Ins) (u:World):Prop where
 bt:u.heap[w.heap.size]?=some (.cells (staL t).toArray 29 (0,0))
 bi:u.heap[w.heap.size+1]?=some (.cells (insL I).toArray 34 (0,0))
 br:∃C,u.heap[w.heap.size+2]?=some (.cells C 29 (0,0))∧C.size=23
 bus:RBus u rb R g cc dd
 own:∀k,R k→k<w.heap.size
 but:But R w u
section
variable {w:World} {rb:Nat} {R:Nat→Prop} {g g':Int→Int} {cc dd:Sg} {s t t':Sta} {I:Ins} {u u' Y:World}
theorem AI.below(h:AI w rb R g cc dd t I u)(hb:Below u.heap.size u u'):AI w rb R g cc dd t I u':=by
 have k:∀{j:Nat} {x:Obj},u.heap[j]?=some x→u'.heap[j]?=some x:=fun{j x} hj=>(hb.block j (Array.getElem?_eq_some_iff.1 hj).1).trans hj
 obtain⟨C,hC,hz⟩:=h.br
 exact⟨k h.bt,k h.bi,⟨C,k hC,hz⟩,h.bus.below hb,h.own,h.but.trans (But.of_below (F:=R) hb) (fun _ _ h=>h)⟩
theorem AI.wrote(h:AI w rb R g cc dd t I u)(hr:RBus u' rb R g' cc dd)(hb:But R u u'):AI w rb R g' cc dd t I u':=by
 have k:∀{j:Nat} {x:Obj},w.heap.size≤j→u.heap[j]?=some x→u'.heap[j]?=some x:=fun{j x} hl hj=>(hb.block j (Array.getElem?_eq_some_iff.1 hj).1 (fun hR=>by have:=h.own j hR;omega)).trans hj
 obtain⟨C,hC,hz⟩:=h.br
 exact⟨k (by omega) h.bt,k (by omega) h.bi,⟨C,k (by omega) hC,hz⟩,hr,h.own,h.but.trans hb (fun _ _ h=>h)⟩
theorem AI.bfar(h:AI w rb R g cc dd t I u)(j:Nat)(hj:w.heap.size≤j)(hb:But (·=j) u Y):RBus Y rb R g cc dd∧But R w Y:=
 ⟨h.bus.but hb (fun i hi e=>by have:=h.own i hi;omega),⟨hb.os.trans h.but.os,hb.tape.trans h.but.tape,hb.output.trans h.but.output,Nat.le_trans h.but.size hb.size,fun i hi hR=>(hb.block i (Nat.lt_of_lt_of_le hi h.but.size) (by omega)).trans (h.but.block i hi hR)⟩⟩
theorem AI.put(h:AI w rb R g cc dd t I u)(k:Nat)(v:Value)(e:(staL t).toArray.setIfInBounds k v=(staL t').toArray):AI w rb R g cc dd t' I (u.setCell ⟨w.heap.size,k,none⟩ v):=by
 have hb:But (·=w.heap.size) u (u.setCell ⟨w.heap.size,k,none⟩ v):=(But.refl (·=w.heap.size) u).setCell (fun _=>rfl) v
 obtain⟨C,hC,hz⟩:=h.br
 obtain⟨q1,q2⟩:=h.bfar w.heap.size (Nat.le_refl _) hb
 refine⟨by rw[←e];exact block_setCell h.bt k v,(hb.block _ (Array.getElem?_eq_some_iff.1 h.bi).1 (by omega)).trans h.bi,⟨C,(hb.block _ (Array.getElem?_eq_some_iff.1 hC).1 (by omega)).trans hC,hz⟩,q1,h.own,q2⟩
theorem AI.res{vs:List Value}(h:AI w rb R g cc dd t I u)(hY:Y=u.setCells (w.heap.size+2) 0 vs):AI w rb R g cc dd t I Y:=by
 have hb:But (·=w.heap.size+2) u Y:=by rw[hY];exact(But.refl (·=w.heap.size+2) u).cells (fun _=>rfl) _ _
 obtain⟨C,hC,hz⟩:=h.br
 obtain⟨q1,q2⟩:=h.bfar (w.heap.size+2) (by omega) hb
 exact⟨(hb.block _ (Array.getElem?_eq_some_iff.1 h.bt).1 (by omega)).trans h.bt,(hb.block _ (Array.getElem?_eq_some_iff.1 h.bi).1 (by omega)).trans h.bi,⟨_,by rw[hY];exact block_setCells vs 0 u _ hC,by rw[setL_size];exact hz⟩,q1,h.own,q2⟩
theorem AI.hasr(h:AI w rb R g cc dd t I u):u.there (w.heap.size+2) 0 23:=by obtain⟨C,hC,hz⟩:=h.br;exact there_block hC 0 23 (by omega)
theorem AI.rt(h:AI w rb R g cc dd t I u):u.rangeAt w.heap.size 0 (staL t):=range_in13 h.bt 0 _ rfl
theorem AI.rin(h:AI w rb R g cc dd t I u):u.rangeAt (w.heap.size+1) 0 (insL I):=range_in13 h.bi 0 _ rfl
theorem AI.ra(h:AI w rb R g cc dd t I u):u.rangeAt (w.heap.size+1) 3 (opL' I.a):=range_in13 h.bi 3 _ rfl
theorem AI.rb'(h:AI w rb R g cc dd t I u):u.rangeAt (w.heap.size+1) 9 (opL' I.b):=range_in13 h.bi 9 _ rfl
end
def LV(w:World)(s T:Sta)(I:Ins)(A:Int):Nat→Value→World→Prop
 |0,x,_=>x=.agg (staL s).toArray
 |1,x,_=>x=.pointer (some ⟨w.heap.size+1,3,none⟩)
 |2,x,_=>x=.agg (opL' I.a).toArray
 |3,x,_=>x=.agg (staL s).toArray
 |4,x,_=>x=.pointer (some ⟨w.heap.size+1,9,none⟩)
 |5,x,_=>x=.agg (opL' I.b).toArray
 |6,x,_=>x=.int .u32 A
 |7,x,_=>x=.int .u64 A
 |8,x,_=>x=.agg (staL T).toArray
 |9,_,u=>u.heap[w.heap.size+2]?=some (.cells (staL T).toArray 29 (0,0))
 |_,_,_=>True
def LG(w:World)(T:Sta)(u u':World):Prop:=u.heap[w.heap.size+2]?=some (.cells (staL T).toArray 29 (0,0))→u'.heap[w.heap.size+2]?=some (.cells (staL T).toArray 29 (0,0))
theorem LG.below{w:World}{T:Sta}{u u':World}(hb:Below u.heap.size u u'):LG w T u u':=fun h=>(hb.block _ (Array.getElem?_eq_some_iff.1 h).1).trans h
theorem lv_stays{w:World}{s T:Sta}{I:Ins}{A:Int}(i:Nat)(x:Value)(u u':World)(h:LV w s T I A i x u)(hg:LG w T u u'):LV w s T I A i x u':=by
 unfold LV at h ⊢
 split at h
 all_goals first
  |exact h
  |exact hg h
set_option maxHeartbeats 40000000
theorem ralu13_any(HDN:RDoneC)(rb:Nat)(R:Nat→Prop)(g:Int→Int)(cc dd:Sg)(s:Sta)(I:Ins)(hs:StaOk s)(hA:0≤I.a.disp∧I.a.disp<4294967296)(hB:0≤I.b.disp∧I.b.disp<4294967296)(hc:0≤I.c∧I.c<4294967296)(w:World)(hR:RBus w rb R g cc dd):
  Calls Tryz.prog 55 #[.pointer (some ⟨rb,0,none⟩),staV s,insV I] w fun e w'=>e=.returned (.tuple #[staV (aluT g dd s I),.int .i64 (aluE g dd s I)])∧RBus w' rb R (aluG g dd s I) cc dd∧But R w w':=by
 have HDN:=Lib.hid HDN
 have HS:=Lib.hid hs
 have HR:=Lib.hid hR
 obtain⟨op,cond,n,⟨ak,ar,ab,ai,ac,ad⟩,⟨bk,br,bb,bi,bc,bd⟩,c,rep,len⟩:=I
 obtain⟨FT0,hFT⟩:∃z,aluT g dd s ⟨op,cond,n,⟨ak,ar,ab,ai,ac,ad⟩,⟨bk,br,bb,bi,bc,bd⟩,c,rep,len⟩=z:=⟨_,rfl⟩
 obtain⟨FE0,hFE⟩:∃z,aluE g dd s ⟨op,cond,n,⟨ak,ar,ab,ai,ac,ad⟩,⟨bk,br,bb,bi,bc,bd⟩,c,rep,len⟩=z:=⟨_,rfl⟩
 obtain⟨FG0,hFG⟩:∃z,aluG g dd s ⟨op,cond,n,⟨ak,ar,ab,ai,ac,ad⟩,⟨bk,br,bb,bi,bc,bd⟩,c,rep,len⟩=z:=⟨_,rfl⟩
 have HFT:=Lib.hid hFT
 have HFE:=Lib.hid hFE
 have HFG:=Lib.hid hFG
 have A0:=hA.1
 have A1:=hA.2
 have B0:=hB.1
 have B1:=hB.2
 have HC:=Lib.hid hc
 dsimp only at A0 A1 B0 B1
 rw[hFT,hFE,hFG]
 clear hs hR hA hB hc hFT hFE hFG
 unfold staV insV insC
 go_enter Tryz.func55,Tryz.ntmps55
 go_upto_region 1 with fail
 obtain⟨W,hW⟩:∃W,W=((w.alloc (.cells (staL s).toArray 29)).alloc (.cells #[.int .i64 op,.int .i64 cond,.int .i64 n,.int .i64 ak,.int .i64 ar,.int .i64 ab,.int .i64 ai,.int .i64 ac,.int .u32 ad,.int .i64 bk,.int .i64 br,.int .i64 bb,.int .i64 bi,.int .i64 bc,.int .u32 bd,.int .u32 c,.bool rep,.int .i64 len] 34)).alloc (.cells #[.int .u32 0,.int .u32 0,.int .u32 0,.int .u32 0,.int .u32 0,.int .u32 0,.int .u32 0,.int .u32 0,.int .u32 0,.bool false,.bool false,.bool false,.bool false,.bool false,.bool false,.int .u64 0,.int .u64 0,.int .u64 0,.int .u64 0,.int .u64 0,.int .u64 0,.int .u64 0,.int .u64 0] 29):=⟨_,rfl⟩
 rw[←hW]
 obtain⟨h1,h2,h3,hbel⟩:=heap_three hW
 have HD:=Lib.hid (show AI w rb R g cc dd s ⟨op,cond,n,⟨ak,ar,ab,ai,ac,ad⟩,⟨bk,br,bb,bi,bc,bd⟩,c,rep,len⟩ W from⟨h1,h2,⟨_,h3,rfl⟩,HR.out.below hbel,fun j hj=>HR.out.lt j hj,But.of_below hbel⟩)
 have k0:W.cell? ⟨w.heap.size+1,0,none⟩=some (.int .i64 op):=(cell_block h2 0).1
 have k2:W.cell? ⟨w.heap.size+1,2,none⟩=some (.int .i64 n):=(cell_block h2 2).1
 have k9:W.cell? ⟨w.heap.size+1,9,none⟩=some (.int .i64 bk):=(cell_block h2 9).1
 have r0:W.cell? ⟨w.heap.size,0,none⟩=some (.int .u32 (s.r 0)):=(cell_block h1 0).1
 have r2:W.cell? ⟨w.heap.size,2,none⟩=some (.int .u32 (s.r 2)):=(cell_block h1 2).1
 have rc:W.cell? ⟨w.heap.size,9,none⟩=some (.bool s.c):=(cell_block h1 9).1
 have f0:=(cell_block h1 0).2
 have f2:=(cell_block h1 2).2
 have f9:=(cell_block h1 9).2
 clear hW h1 h2 h3 hbel
 by_cases h37:op=37
 ·subst h37
  have HT1:=Lib.hid (show FT0=({ s with r:=putN s.r 0 (sgn (s.r 0) 2%4294967296) }:Sta)from HFT.out.symm)
  have HE1:=Lib.hid (show FE0=0 from HFE.out.symm)
  have HG1:=Lib.hid (show FG0=g from HFG.out.symm)
  clear HFT HFE HFG
  have hb:=HS.out.r 0 (by decide)
  have hw:=IntKind.wrap_u32' (sgn (s.r 0) 2)
  go_upto_region 4 with(go_at_call 77;refine(rsigned_any _ _ _ hb.1 hb.2).mono ?_;rintro e w1 ⟨rfl,rfl⟩)
  obtain⟨Z,hZ⟩:∃Z,Z=W.setCell ⟨w.heap.size,0,none⟩ (.int .u32 (sgn (s.r 0) 2%4294967296)):=⟨_,rfl⟩
  rw[←hZ]
  have HQ:=Lib.hid (show AI w rb R g cc dd ({ s with r:=putN s.r 0 (sgn (s.r 0) 2%4294967296) }) ⟨37,cond,n,⟨ak,ar,ab,ai,ac,ad⟩,⟨bk,br,bb,bi,bc,bd⟩,c,rep,len⟩ Z by rw[hZ];exact HD.out.put 0 _ (sta_put _ 0 (by decide) _))
  clear hZ r0 r2 rc f0 f2 f9 k0 k2 k9
  go_wp2_with (first
   |(refine wpList_load_mid rfl 29 (.tmp 4) rfl w.heap.size 0 rfl (staL ({ s with r:=putN s.r 0 (sgn (s.r 0) 2%4294967296) })) _ HQ.out.rt Tryz.underlying29 rfl info_sta ?_)
   |(refine store_row rfl 29 (.tmp 6) (.tmp 22) rfl (w.heap.size+2) rfl (staL ({ s with r:=putN s.r 0 (sgn (s.r 0) 2%4294967296) })) rfl _ Tryz.underlying29 rfl info_sta (sta_one ({ s with r:=putN s.r 0 (sgn (s.r 0) 2%4294967296) })) HQ.out.hasr ?_;intro Y hY hl;have HL:=Lib.hid hl;have HY:=Lib.hid (HQ.out.res hY);clear hY hl))
  exact bodyPost_ret (results_cell_tmp rfl rfl rfl HL.out) rfl ⟨by rw[HT1.out,HE1.out];rfl,by rw[HG1.out];exact HY.out.bus,HY.out.but⟩
 have e37:(op==37)=false:=by simpa using h37
 by_cases h38:op=38
 ·subst h38
  have HT1:=Lib.hid (show FT0=({ s with r:=putN s.r 2 (cdqV (s.r 0)) }:Sta)from HFT.out.symm)
  have HE1:=Lib.hid (show FE0=0 from HFE.out.symm)
  have HG1:=Lib.hid (show FG0=g from HFG.out.symm)
  clear HFT HFE HFG
  have hb:=HS.out.r 0 (by decide)
  have hq:=cdq_walk (s.r 0) hb.1 hb.2
  go_upto_region 7 with fail
  obtain⟨Z,hZ⟩:∃Z,Z=W.setCell ⟨w.heap.size,2,none⟩ (.int .u32 (cdqV (s.r 0))):=⟨_,rfl⟩
  rw[←hZ]
  have HQ:=Lib.hid (show AI w rb R g cc dd ({ s with r:=putN s.r 2 (cdqV (s.r 0)) }) ⟨38,cond,n,⟨ak,ar,ab,ai,ac,ad⟩,⟨bk,br,bb,bi,bc,bd⟩,c,rep,len⟩ Z by rw[hZ];exact HD.out.put 2 _ (sta_put _ 2 (by decide) _))
  clear hZ r0 r2 rc f0 f2 f9 k0 k2 k9
  go_wp2_with (first
   |(refine wpList_load_mid rfl 29 (.tmp 4) rfl w.heap.size 0 rfl (staL ({ s with r:=putN s.r 2 (cdqV (s.r 0)) })) _ HQ.out.rt Tryz.underlying29 rfl info_sta ?_)
   |(refine store_row rfl 29 (.tmp 6) (.tmp 33) rfl (w.heap.size+2) rfl (staL ({ s with r:=putN s.r 2 (cdqV (s.r 0)) })) rfl _ Tryz.underlying29 rfl info_sta (sta_one ({ s with r:=putN s.r 2 (cdqV (s.r 0)) })) HQ.out.hasr ?_;intro Y hY hl;have HL:=Lib.hid hl;have HY:=Lib.hid (HQ.out.res hY);clear hY hl))
  exact bodyPost_ret (results_cell_tmp rfl rfl rfl HL.out) rfl ⟨by rw[HT1.out,HE1.out];rfl,by rw[HG1.out];exact HY.out.bus,HY.out.but⟩
 have e38:(op==38)=false:=by simpa using h38
 by_cases h41:op=41
 ·subst h41
  have HT1:=Lib.hid (show FT0=({ s with c:=false }:Sta)from HFT.out.symm)
  have HE1:=Lib.hid (show FE0=0 from HFE.out.symm)
  have HG1:=Lib.hid (show FG0=g from HFG.out.symm)
  clear HFT HFE HFG
  go_upto_region 10 with fail
  obtain⟨Z,hZ⟩:∃Z,Z=W.setCell ⟨w.heap.size,9,none⟩ (.bool (false)):=⟨_,rfl⟩
  rw[←hZ]
  have HQ:=Lib.hid (show AI w rb R g cc dd ({ s with c:=false }) ⟨41,cond,n,⟨ak,ar,ab,ai,ac,ad⟩,⟨bk,br,bb,bi,bc,bd⟩,c,rep,len⟩ Z by rw[hZ];exact HD.out.put 9 _ rfl)
  clear hZ r0 r2 rc f0 f2 f9 k0 k2 k9
  go_wp2_with (first
   |(refine wpList_load_mid rfl 29 (.tmp 4) rfl w.heap.size 0 rfl (staL ({ s with c:=false })) _ HQ.out.rt Tryz.underlying29 rfl info_sta ?_)
   |(refine store_row rfl 29 (.tmp 6) (.tmp 38) rfl (w.heap.size+2) rfl (staL ({ s with c:=false })) rfl _ Tryz.underlying29 rfl info_sta (sta_one ({ s with c:=false })) HQ.out.hasr ?_;intro Y hY hl;have HL:=Lib.hid hl;have HY:=Lib.hid (HQ.out.res hY);clear hY hl))
  exact bodyPost_ret (results_cell_tmp rfl rfl rfl HL.out) rfl ⟨by rw[HT1.out,HE1.out];rfl,by rw[HG1.out];exact HY.out.bus,HY.out.but⟩
 have e41:(op==41)=false:=by simpa using h41
 by_cases h42:op=42
 ·subst h42
  have HT1:=Lib.hid (show FT0=({ s with c:=true }:Sta)from HFT.out.symm)
  have HE1:=Lib.hid (show FE0=0 from HFE.out.symm)
  have HG1:=Lib.hid (show FG0=g from HFG.out.symm)
  clear HFT HFE HFG
  go_upto_region 13 with fail
  obtain⟨Z,hZ⟩:∃Z,Z=W.setCell ⟨w.heap.size,9,none⟩ (.bool (true)):=⟨_,rfl⟩
  rw[←hZ]
  have HQ:=Lib.hid (show AI w rb R g cc dd ({ s with c:=true }) ⟨42,cond,n,⟨ak,ar,ab,ai,ac,ad⟩,⟨bk,br,bb,bi,bc,bd⟩,c,rep,len⟩ Z by rw[hZ];exact HD.out.put 9 _ rfl)
  clear hZ r0 r2 rc f0 f2 f9 k0 k2 k9
  go_wp2_with (first
   |(refine wpList_load_mid rfl 29 (.tmp 4) rfl w.heap.size 0 rfl (staL ({ s with c:=true })) _ HQ.out.rt Tryz.underlying29 rfl info_sta ?_)
   |(refine store_row rfl 29 (.tmp 6) (.tmp 43) rfl (w.heap.size+2) rfl (staL ({ s with c:=true })) rfl _ Tryz.underlying29 rfl info_sta (sta_one ({ s with c:=true })) HQ.out.hasr ?_;intro Y hY hl;have HL:=Lib.hid hl;have HY:=Lib.hid (HQ.out.res hY);clear hY hl))
  exact bodyPost_ret (results_cell_tmp rfl rfl rfl HL.out) rfl ⟨by rw[HT1.out,HE1.out];rfl,by rw[HG1.out];exact HY.out.bus,HY.out.but⟩
 have e42:(op==42)=false:=by simpa using h42
 by_cases h43:op=43
 ·subst h43
  have HT1:=Lib.hid (show FT0=({ s with c:=!s.c }:Sta)from HFT.out.symm)
  have HE1:=Lib.hid (show FE0=0 from HFE.out.symm)
  have HG1:=Lib.hid (show FG0=g from HFG.out.symm)
  clear HFT HFE HFG
  go_upto_region 16 with fail
  obtain⟨Z,hZ⟩:∃Z,Z=W.setCell ⟨w.heap.size,9,none⟩ (.bool (!s.c)):=⟨_,rfl⟩
  rw[←hZ]
  have HQ:=Lib.hid (show AI w rb R g cc dd ({ s with c:=!s.c }) ⟨43,cond,n,⟨ak,ar,ab,ai,ac,ad⟩,⟨bk,br,bb,bi,bc,bd⟩,c,rep,len⟩ Z by rw[hZ];exact HD.out.put 9 _ rfl)
  clear hZ r0 r2 rc f0 f2 f9 k0 k2 k9
  go_wp2_with (first
   |(refine wpList_load_mid rfl 29 (.tmp 4) rfl w.heap.size 0 rfl (staL ({ s with c:=!s.c })) _ HQ.out.rt Tryz.underlying29 rfl info_sta ?_)
   |(refine store_row rfl 29 (.tmp 6) (.tmp 52) rfl (w.heap.size+2) rfl (staL ({ s with c:=!s.c })) rfl _ Tryz.underlying29 rfl info_sta (sta_one ({ s with c:=!s.c })) HQ.out.hasr ?_;intro Y hY hl;have HL:=Lib.hid hl;have HY:=Lib.hid (HQ.out.res hY);clear hY hl))
  exact bodyPost_ret (results_cell_tmp rfl rfl rfl HL.out) rfl ⟨by rw[HT1.out,HE1.out];rfl,by rw[HG1.out];exact HY.out.bus,HY.out.but⟩
 have e43:(op==43)=false:=by simpa using h43
 by_cases h44:op=44
 ·subst h44
  have HT1:=Lib.hid (show FT0=s from HFT.out.symm)
  have HE1:=Lib.hid (show FE0=0 from HFE.out.symm)
  have HG1:=Lib.hid (show FG0=g from HFG.out.symm)
  clear HFT HFE HFG
  go_wp2_with (first
   |(refine wpList_load_mid rfl 29 (.tmp 4) rfl w.heap.size 0 rfl (staL s) _ HD.out.rt Tryz.underlying29 rfl info_sta ?_)
   |(refine store_row rfl 29 (.tmp 6) (.tmp 57) rfl (w.heap.size+2) rfl (staL s) rfl _ Tryz.underlying29 rfl info_sta (sta_one s) HD.out.hasr ?_;intro Y hY hl;have HL:=Lib.hid hl;have HY:=Lib.hid (HD.out.res hY);clear hY hl))
  exact bodyPost_ret (results_cell_tmp rfl rfl rfl HL.out) rfl ⟨by rw[HT1.out,HE1.out];rfl,by rw[HG1.out];exact HY.out.bus,HY.out.but⟩
 have e44:(op==44)=false:=by simpa using h44
 by_cases h45:op=45
 ·subst h45
  have HT1:=Lib.hid (show FT0=s from HFT.out.symm)
  have HE1:=Lib.hid (show FE0=0 from HFE.out.symm)
  have HG1:=Lib.hid (show FG0=g from HFG.out.symm)
  clear HFT HFE HFG
  go_wp2_with (first
   |(refine wpList_load_mid rfl 29 (.tmp 4) rfl w.heap.size 0 rfl (staL s) _ HD.out.rt Tryz.underlying29 rfl info_sta ?_)
   |(refine store_row rfl 29 (.tmp 6) (.tmp 57) rfl (w.heap.size+2) rfl (staL s) rfl _ Tryz.underlying29 rfl info_sta (sta_one s) HD.out.hasr ?_;intro Y hY hl;have HL:=Lib.hid hl;have HY:=Lib.hid (HD.out.res hY);clear hY hl))
  exact bodyPost_ret (results_cell_tmp rfl rfl rfl HL.out) rfl ⟨by rw[HT1.out,HE1.out];rfl,by rw[HG1.out];exact HY.out.bus,HY.out.but⟩
 have e45:(op==45)=false:=by simpa using h45
 by_cases h50:op=50
 ·subst h50
  have HT1:=Lib.hid (show FT0=s from HFT.out.symm)
  have HE1:=Lib.hid (show FE0=0 from HFE.out.symm)
  have HG1:=Lib.hid (show FG0=g from HFG.out.symm)
  clear HFT HFE HFG
  go_wp2_with (first
   |(refine wpList_load_mid rfl 29 (.tmp 4) rfl w.heap.size 0 rfl (staL s) _ HD.out.rt Tryz.underlying29 rfl info_sta ?_)
   |(refine store_row rfl 29 (.tmp 6) (.tmp 57) rfl (w.heap.size+2) rfl (staL s) rfl _ Tryz.underlying29 rfl info_sta (sta_one s) HD.out.hasr ?_;intro Y hY hl;have HL:=Lib.hid hl;have HY:=Lib.hid (HD.out.res hY);clear hY hl))
  exact bodyPost_ret (results_cell_tmp rfl rfl rfl HL.out) rfl ⟨by rw[HT1.out,HE1.out];rfl,by rw[HG1.out];exact HY.out.bus,HY.out.but⟩
 have e50:(op==50)=false:=by simpa using h50
 by_cases h21:op=21
 ·subst h21
  have HOF:=Lib.hid (fun u=>rof_any s ⟨bk,br,bb,bi,bc,bd⟩ HS.out B0 B1 u)
  obtain⟨A,hA⟩:∃A,ofF s ⟨bk,br,bb,bi,bc,bd⟩=A:=⟨_,rfl⟩
  have hlo:=ofF_lo s ⟨bk,br,bb,bi,bc,bd⟩
  have hhi:=ofF_hi s ⟨bk,br,bb,bi,bc,bd⟩
  rw[hA]at HOF hlo hhi
  have HSE:=Lib.hid (fun u=>rset_any s ⟨ak,ar,ab,ai,ac,ad⟩ A HS.out hlo (by omega) u)
  obtain⟨T,hT⟩:∃T,setF s ⟨ak,ar,ab,ai,ac,ad⟩ A=T:=⟨_,rfl⟩
  have HT1:=Lib.hid (show FT0=T by rw[←hT,←hA];exact HFT.out.symm)
  have HE1:=Lib.hid (show FE0=0 from HFE.out.symm)
  have HG1:=Lib.hid (show FG0=g from HFG.out.symm)
  rw[hT,show staV s=.agg (staL s).toArray from rfl,show opV (⟨ak,ar,ab,ai,ac,ad⟩:Opd)=.agg (opL' ⟨ak,ar,ab,ai,ac,ad⟩).toArray from rfl,show staV T=.agg (staL T).toArray from rfl]at HSE
  rw[show staV s=.agg (staL s).toArray from rfl,show opV (⟨bk,br,bb,bi,bc,bd⟩:Opd)=.agg (opL' ⟨bk,br,bb,bi,bc,bd⟩).toArray from rfl]at HOF
  clear HFT HFE HFG hA hT r0 r2 rc f0 f2 f9
  go_wp2_with fail
  refine wp_region_valsT (by kernel_rfl) 10 _ rfl rfl (by kernel_rfl) (fun n=>n==9) (by kernel_rfl) (AI w rb R g cc dd s ⟨21,cond,n,⟨ak,ar,ab,ai,ac,ad⟩,⟨bk,br,bb,bi,bc,bd⟩,c,rep,len⟩) (LG w T) (LV w s T ⟨21,cond,n,⟨ak,ar,ab,ai,ac,ad⟩,⟨bk,br,bb,bi,bc,bd⟩,c,rep,len⟩ A) lv_stays (fun _=>id) (HD.out.below ((Below.refl _ _).drew)) ?_ ?_
  ·intro q op' f u hq ho hinv hsz hbase hdep
   have b4:f.tmps.getD 4 undef=.pointer (some ⟨w.heap.size,0,none⟩):=hbase 4 (by kernel_rfl)
   have b5:f.tmps.getD 5 undef=.pointer (some ⟨w.heap.size+1,0,none⟩):=hbase 5 (by kernel_rfl)
   have b6:f.tmps.getD 6 undef=.pointer (some ⟨w.heap.size+2,0,none⟩):=hbase 6 (by kernel_rfl)
   clear hbase hsz
   have ls:=load_range (P:=Tryz.prog) (cs:=staL s) 29 _ Tryz.underlying29 rfl info_sta hinv.rt
   have la:=load_range (P:=Tryz.prog) (cs:=opL' ⟨ak,ar,ab,ai,ac,ad⟩) 32 _ Tryz.underlying32 rfl info_opd1 hinv.ra
   have lb:=load_range (P:=Tryz.prog) (cs:=opL' ⟨bk,br,bb,bi,bc,bd⟩) 32 _ Tryz.underlying32 rfl info_opd1 hinv.rb'
   rcases(show q=0∨q=1∨q=2∨q=3∨q=4∨q=5∨q=6∨q=7∨q=8∨q=9 by omega)with rfl|rfl|rfl|rfl|rfl|rfl|rfl|rfl|rfl|rfl
   ·cases ho
    exact wp_val (by simp[execOp,Act.eval,b4,Instr.loadAt,Instr.sureAddr,ls]<;>rfl) ⟨_,rfl,hinv,id,rfl⟩
   ·cases ho
    exact wp_val (by simp[execOp,Act.eval,b5,go_sem]<;>rfl) ⟨_,rfl,hinv,id,rfl⟩
   ·cases ho
    have e1:f.tmps.getD 61 undef=.pointer (some ⟨w.heap.size+1,3,none⟩):=hdep 1 (by kernel_rfl)
    exact wp_val (by simp[execOp,Act.eval,e1,Instr.loadAt,Instr.sureAddr,la]<;>rfl) ⟨_,rfl,hinv,id,rfl⟩
   ·cases ho
    exact wp_val (by simp[execOp,Act.eval,b4,Instr.loadAt,Instr.sureAddr,ls]<;>rfl) ⟨_,rfl,hinv,id,rfl⟩
   ·cases ho
    exact wp_val (by simp[execOp,Act.eval,b5,go_sem]<;>rfl) ⟨_,rfl,hinv,id,rfl⟩
   ·cases ho
    have e4:f.tmps.getD 64 undef=.pointer (some ⟨w.heap.size+1,9,none⟩):=hdep 4 (by kernel_rfl)
    exact wp_val (by simp[execOp,Act.eval,e4,Instr.loadAt,Instr.sureAddr,lb]<;>rfl) ⟨_,rfl,hinv,id,rfl⟩
   ·cases ho
    have e3:f.tmps.getD 63 undef=.agg (staL s).toArray:=hdep 3 (by kernel_rfl)
    have e5:f.tmps.getD 65 undef=.agg (opL' ⟨bk,br,bb,bi,bc,bd⟩).toArray:=hdep 5 (by kernel_rfl)
    refine wp_call (by simp[execOp,Act.eval,e3,e5,go_sem]<;>rfl) ((HOF.out u).mono ?_)
    rintro e u' ⟨rfl,hb⟩
    exact⟨_,rfl,_,rfl,hinv.below hb,LG.below hb,rfl⟩
   ·cases ho
    have e6:f.tmps.getD 66 undef=.int .u32 A:=hdep 6 (by kernel_rfl)
    have hw:IntKind.u64.wrap A=A:=by rw[IntKind.wrap_u64];omega
    exact wp_val (by simp[execOp,Act.eval,e6,hw,go_sem]<;>rfl) ⟨_,rfl,hinv,id,rfl⟩
   ·cases ho
    have e0:f.tmps.getD 60 undef=.agg (staL s).toArray:=hdep 0 (by kernel_rfl)
    have e2:f.tmps.getD 62 undef=.agg (opL' ⟨ak,ar,ab,ai,ac,ad⟩).toArray:=hdep 2 (by kernel_rfl)
    have e7:f.tmps.getD 67 undef=.int .u64 A:=hdep 7 (by kernel_rfl)
    refine wp_call (by simp[execOp,Act.eval,e0,e2,e7,go_sem]<;>rfl) ((HSE.out u).mono ?_)
    rintro e u' ⟨rfl,hb⟩
    exact⟨_,rfl,_,rfl,hinv.below hb,LG.below hb,rfl⟩
   ·cases ho
    have e8:f.tmps.getD 68 undef=.agg (staL T).toArray:=hdep 8 (by kernel_rfl)
    obtain⟨C,hC,hz⟩:=hinv.br
    refine wp_store_mid 29 (.tmp 6) (.tmp 68) rfl (w.heap.size+2) 0 (staL T).toArray b6 e8 (there_block hC 0 23 (by omega)) info_sta (sta_one T) ?_
    refine⟨undef,rfl,hinv.res (vs:=(staL T).toArray.toList) rfl,fun _=>?_,?_⟩
    all_goals
     have h:=block_setCells (T:=29) (staL T).toArray.toList 0 u C hC
     rw[setL_whole T hz]at h
     exact h
  ·intro f u hinv hV
   have hres:=hV 9 (by decide)
   generalize hc:laid _ f _ _=fr
   have b6:fr.tmps.getD 6 undef=.pointer (some ⟨w.heap.size+2,0,none⟩):=by rw[←hc];kernel_rfl
   have bs:fr.tmps.size=113:=by rw[←hc];kernel_rfl
   have bd:fr.defers=[]:=by rw[←hc];kernel_rfl
   have HI:=Lib.hid hinv
   have HL:=Lib.hid (load_range (P:=Tryz.prog) (cs:=staL T) 29 _ Tryz.underlying29 rfl info_sta (range_in13 hres 0 _ rfl))
   clear hc hV hinv hres
   refine wp_val (v:=.int .i64 0) (by simp[execOp,Act.eval,go_sem]<;>rfl) ?_
   show Exit.then _ _ Exit.normal (fr.put (some 7) (.int .i64 0)) u
   generalize hc:fr.put (some 7) (Value.int .i64 0)=f2
   have b6':f2.tmps.getD 6 undef=.pointer (some ⟨w.heap.size+2,0,none⟩):=by rw[←hc,put_other _ _ _ _ (by decide),b6]
   have b7':f2.tmps.getD 7 undef=.int .i64 0:=by rw[←hc];exact put_same _ _ _ (by rw[bs];decide)
   have bd':f2.defers=[]:=by rw[←hc,put_defers,bd]
   clear hc b6 bs bd
   go_wp2_with fail
   exact bodyPost_ret (results_cell_tmp rfl b6' b7' HL.out) bd' ⟨by rw[HT1.out,HE1.out],by rw[HG1.out];exact HI.out.bus,HI.out.but⟩
 have e21:(op==21)=false:=by simpa using h21
 have hsole:soleB op=false:=by simp[soleB,h37,h38,h41,h42,h43,h44,h45,h50,h21]
 have HFT1:=Lib.hid (show(if okA dd s ⟨op,cond,n,⟨ak,ar,ab,ai,ac,ad⟩,⟨bk,br,bb,bi,bc,bd⟩,c,rep,len⟩then doneT dd s ⟨op,cond,n,⟨ak,ar,ab,ai,ac,ad⟩,⟨bk,br,bb,bi,bc,bd⟩,c,rep,len⟩ (xA g dd s ⟨op,cond,n,⟨ak,ar,ab,ai,ac,ad⟩,⟨bk,br,bb,bi,bc,bd⟩,c,rep,len⟩) (yA g dd s ⟨op,cond,n,⟨ak,ar,ab,ai,ac,ad⟩,⟨bk,br,bb,bi,bc,bd⟩,c,rep,len⟩)else s)=FT0 by rw[←HFT.out];unfold aluT;rw[show soleB (⟨op,cond,n,⟨ak,ar,ab,ai,ac,ad⟩,⟨bk,br,bb,bi,bc,bd⟩,c,rep,len⟩:Ins).op=false from hsole];rfl)
 have HFE1:=Lib.hid (show(if okA dd s ⟨op,cond,n,⟨ak,ar,ab,ai,ac,ad⟩,⟨bk,br,bb,bi,bc,bd⟩,c,rep,len⟩then doneE dd s ⟨op,cond,n,⟨ak,ar,ab,ai,ac,ad⟩,⟨bk,br,bb,bi,bc,bd⟩,c,rep,len⟩ (xA g dd s ⟨op,cond,n,⟨ak,ar,ab,ai,ac,ad⟩,⟨bk,br,bb,bi,bc,bd⟩,c,rep,len⟩) (yA g dd s ⟨op,cond,n,⟨ak,ar,ab,ai,ac,ad⟩,⟨bk,br,bb,bi,bc,bd⟩,c,rep,len⟩)else 2)=FE0 by rw[←HFE.out];unfold aluE;rw[show soleB (⟨op,cond,n,⟨ak,ar,ab,ai,ac,ad⟩,⟨bk,br,bb,bi,bc,bd⟩,c,rep,len⟩:Ins).op=false from hsole];rfl)
 have HFG1:=Lib.hid (show(if okA dd s ⟨op,cond,n,⟨ak,ar,ab,ai,ac,ad⟩,⟨bk,br,bb,bi,bc,bd⟩,c,rep,len⟩then doneG g dd s ⟨op,cond,n,⟨ak,ar,ab,ai,ac,ad⟩,⟨bk,br,bb,bi,bc,bd⟩,c,rep,len⟩ (xA g dd s ⟨op,cond,n,⟨ak,ar,ab,ai,ac,ad⟩,⟨bk,br,bb,bi,bc,bd⟩,c,rep,len⟩) (yA g dd s ⟨op,cond,n,⟨ak,ar,ab,ai,ac,ad⟩,⟨bk,br,bb,bi,bc,bd⟩,c,rep,len⟩)else g)=FG0 by rw[←HFG.out];unfold aluG;rw[show soleB (⟨op,cond,n,⟨ak,ar,ab,ai,ac,ad⟩,⟨bk,br,bb,bi,bc,bd⟩,c,rep,len⟩:Ins).op=false from hsole];rfl)
 clear HFT HFE HFG hsole h37 h38 h41 h42 h43 h44 h45 h50 h21 r0 r2 rc f0 f2 f9
 obtain⟨OB0,hOB⟩:∃z,onlyB op=z:=⟨_,rfl⟩
 have HON:=Lib.hid (fun u=>ronly_any op u)
 rw[hOB]at HON
 have HOB:=Lib.hid hOB
 clear hOB
 go_wp2_with fail
 ((with_reducible refine(HON.out _).mono ?_);rintro e w' ⟨rfl,rfl⟩)
 cases OB0 with
 |true=>
  by_cases hb0:bk=0
  ·subst hb0
   have hok:okA dd s ⟨op,cond,n,⟨ak,ar,ab,ai,ac,ad⟩,⟨0,br,bb,bi,bc,bd⟩,c,rep,len⟩=true:=by unfold okA;dsimp only;rw[HOB.out,Bool.true_or];rfl
   have hx:xA g dd s ⟨op,cond,n,⟨ak,ar,ab,ai,ac,ad⟩,⟨0,br,bb,bi,bc,bd⟩,c,rep,len⟩=0:=by unfold xA;dsimp only;rw[HOB.out];rfl
   have hy:yA g dd s ⟨op,cond,n,⟨ak,ar,ab,ai,ac,ad⟩,⟨0,br,bb,bi,bc,bd⟩,c,rep,len⟩=0:=by unfold yA;exact if_pos rfl
   have hdn:=fun u hu=>HDN.out rb R g cc dd s ⟨op,cond,n,⟨ak,ar,ab,ai,ac,ad⟩,⟨0,br,bb,bi,bc,bd⟩,c,rep,len⟩ 0 0 HS.out ⟨A0,A1⟩ ⟨B0,B1⟩ HC.out (by omega) (by omega) (by omega) (by omega) u hu
   obtain⟨DT,hDT⟩:∃z,doneT dd s ⟨op,cond,n,⟨ak,ar,ab,ai,ac,ad⟩,⟨0,br,bb,bi,bc,bd⟩,c,rep,len⟩ 0 0=z:=⟨_,rfl⟩
   obtain⟨DE,hDE⟩:∃z,doneE dd s ⟨op,cond,n,⟨ak,ar,ab,ai,ac,ad⟩,⟨0,br,bb,bi,bc,bd⟩,c,rep,len⟩ 0 0=z:=⟨_,rfl⟩
   obtain⟨DG,hDG⟩:∃z,doneG g dd s ⟨op,cond,n,⟨ak,ar,ab,ai,ac,ad⟩,⟨0,br,bb,bi,bc,bd⟩,c,rep,len⟩ 0 0=z:=⟨_,rfl⟩
   have HT1:=Lib.hid (show FT0=DT by rw[←HFT1.out,hok,hx,hy,hDT];rfl)
   have HE1:=Lib.hid (show FE0=DE by rw[←HFE1.out,hok,hx,hy,hDE];rfl)
   have HG1:=Lib.hid (show FG0=DG by rw[←HFG1.out,hok,hx,hy,hDG];rfl)
   rw[hDT,hDE,hDG,show staV s=.agg (staL s).toArray from rfl,show staV DT=.agg (staL DT).toArray from rfl,show insV (⟨op,cond,n,⟨ak,ar,ab,ai,ac,ad⟩,⟨0,br,bb,bi,bc,bd⟩,c,rep,len⟩:Ins)=.agg (insL ⟨op,cond,n,⟨ak,ar,ab,ai,ac,ad⟩,⟨0,br,bb,bi,bc,bd⟩,c,rep,len⟩).toArray from rfl]at hdn
   have HDX:=Lib.hid hdn
   clear hok hx hy hdn hDT hDE hDG
   go_wp2_with (first
    |(refine wpList_load_mid rfl 29 (.tmp 4) rfl w.heap.size 0 rfl (staL s) _ HD.out.rt Tryz.underlying29 rfl info_sta ?_)
    |(refine wpList_load_mid rfl 34 (.tmp 5) rfl (w.heap.size+1) 0 rfl (insL ⟨op,cond,n,⟨ak,ar,ab,ai,ac,ad⟩,⟨0,br,bb,bi,bc,bd⟩,c,rep,len⟩) _ HD.out.rin Tryz.underlying34 rfl info_ins ?_))
   ((with_reducible refine(HDX.out _ HD.out.bus).mono ?_);rintro e wd ⟨rfl,rd,bd'⟩)
   have HD:=Lib.hid (HD.out.wrote rd bd')
   clear rd bd'
   go_wp2_with (refine store_row rfl 29 (.tmp 6) (.tmp 111) rfl (w.heap.size+2) rfl (staL DT) rfl _ Tryz.underlying29 rfl info_sta (sta_one DT) HD.out.hasr ?_;intro Y hY hl;have HL:=Lib.hid hl;have HY:=Lib.hid (HD.out.res hY);clear hY hl)
   exact bodyPost_ret (results_cell_tmp rfl rfl rfl HL.out) rfl ⟨by rw[HT1.out,HE1.out];rfl,by rw[HG1.out];exact HY.out.bus,HY.out.but⟩
  have eb0:(bk != 0)=true:=by simpa using hb0
  have eb0':(bk==0)=false:=by simpa using hb0
  have HB0:=Lib.hid hb0
  clear hb0
  obtain⟨Xb,hXb⟩:∃z,ldA g dd s ⟨bk,br,bb,bi,bc,bd⟩ n=z:=⟨_,rfl⟩
  obtain⟨Kb,hKb⟩:∃z,ldO dd s ⟨bk,br,bb,bi,bc,bd⟩ n=z:=⟨_,rfl⟩
  have HLb:=Lib.hid (fun u hu=>rload13_any rb R g cc dd s ⟨bk,br,bb,bi,bc,bd⟩ n HS.out B0 B1 u hu)
  rw[hXb,hKb,show staV s=.agg (staL s).toArray from rfl,show opV (⟨bk,br,bb,bi,bc,bd⟩:Opd)=.agg (opL' ⟨bk,br,bb,bi,bc,bd⟩).toArray from rfl]at HLb
  have HXb:=Lib.hid hXb
  have HKb:=Lib.hid hKb
  have hwb:=IntKind.wrap_u32' Xb
  clear hXb hKb
  go_wp2_with (first
   |(refine wpList_load_mid rfl 29 (.tmp 4) rfl w.heap.size 0 rfl (staL s) _ HD.out.rt Tryz.underlying29 rfl info_sta ?_)
   |(refine wpList_load_mid rfl 32 (.tmp 93) rfl (w.heap.size+1) 9 rfl (opL' ⟨bk,br,bb,bi,bc,bd⟩) _ HD.out.rb' Tryz.underlying32 rfl info_opd1 ?_))
  ((with_reducible refine(HLb.out _ HD.out.bus).mono ?_);rintro e wb ⟨rfl,b1⟩)
  have HD:=Lib.hid (HD.out.below b1)
  have k0:wb.cell? ⟨w.heap.size+1,0,none⟩=some (.int .i64 op):=(cell_block HD.out.bi 0).1
  have k2:wb.cell? ⟨w.heap.size+1,2,none⟩=some (.int .i64 n):=(cell_block HD.out.bi 2).1
  have k9:wb.cell? ⟨w.heap.size+1,9,none⟩=some (.int .i64 bk):=(cell_block HD.out.bi 9).1
  clear b1
  cases Kb with
  |false=>
   have hok:okA dd s ⟨op,cond,n,⟨ak,ar,ab,ai,ac,ad⟩,⟨bk,br,bb,bi,bc,bd⟩,c,rep,len⟩=false:=by unfold okA;dsimp only;rw[HOB.out,Bool.true_or,HKb.out,eb0'];rfl
   have HT1:=Lib.hid (show FT0=s by rw[←HFT1.out,hok];rfl)
   have HE1:=Lib.hid (show FE0=2 by rw[←HFE1.out,hok];rfl)
   have HG1:=Lib.hid (show FG0=g by rw[←HFG1.out,hok];rfl)
   clear hok
   go_wp2_with (first
    |(refine wpList_load_mid rfl 29 (.tmp 4) rfl w.heap.size 0 rfl (staL s) _ HD.out.rt Tryz.underlying29 rfl info_sta ?_)
    |(refine store_row rfl 29 (.tmp 6) (.tmp 102) rfl (w.heap.size+2) rfl (staL s) rfl _ Tryz.underlying29 rfl info_sta (sta_one s) HD.out.hasr ?_;intro Y hY hl;have HL:=Lib.hid hl;have HY:=Lib.hid (HD.out.res hY);clear hY hl))
   exact bodyPost_ret (results_cell_tmp rfl rfl rfl HL.out) rfl ⟨by rw[HT1.out,HE1.out];rfl,by rw[HG1.out];exact HY.out.bus,HY.out.but⟩
  |true=>
   have hok:okA dd s ⟨op,cond,n,⟨ak,ar,ab,ai,ac,ad⟩,⟨bk,br,bb,bi,bc,bd⟩,c,rep,len⟩=true:=by unfold okA;dsimp only;rw[HOB.out,Bool.true_or,HKb.out];simp
   have hx:xA g dd s ⟨op,cond,n,⟨ak,ar,ab,ai,ac,ad⟩,⟨bk,br,bb,bi,bc,bd⟩,c,rep,len⟩=0:=by unfold xA;dsimp only;rw[HOB.out];rfl
   have hy:yA g dd s ⟨op,cond,n,⟨ak,ar,ab,ai,ac,ad⟩,⟨bk,br,bb,bi,bc,bd⟩,c,rep,len⟩=(Xb%4294967296):=by unfold yA;dsimp only;rw[if_neg HB0.out,HXb.out]
   have hdn:=fun u hu=>HDN.out rb R g cc dd s ⟨op,cond,n,⟨ak,ar,ab,ai,ac,ad⟩,⟨bk,br,bb,bi,bc,bd⟩,c,rep,len⟩ 0 (Xb%4294967296) HS.out ⟨A0,A1⟩ ⟨B0,B1⟩ HC.out (by omega) (by omega) (by omega) (by omega) u hu
   obtain⟨DT,hDT⟩:∃z,doneT dd s ⟨op,cond,n,⟨ak,ar,ab,ai,ac,ad⟩,⟨bk,br,bb,bi,bc,bd⟩,c,rep,len⟩ 0 (Xb%4294967296)=z:=⟨_,rfl⟩
   obtain⟨DE,hDE⟩:∃z,doneE dd s ⟨op,cond,n,⟨ak,ar,ab,ai,ac,ad⟩,⟨bk,br,bb,bi,bc,bd⟩,c,rep,len⟩ 0 (Xb%4294967296)=z:=⟨_,rfl⟩
   obtain⟨DG,hDG⟩:∃z,doneG g dd s ⟨op,cond,n,⟨ak,ar,ab,ai,ac,ad⟩,⟨bk,br,bb,bi,bc,bd⟩,c,rep,len⟩ 0 (Xb%4294967296)=z:=⟨_,rfl⟩
   have HT1:=Lib.hid (show FT0=DT by rw[←HFT1.out,hok,hx,hy,hDT];rfl)
   have HE1:=Lib.hid (show FE0=DE by rw[←HFE1.out,hok,hx,hy,hDE];rfl)
   have HG1:=Lib.hid (show FG0=DG by rw[←HFG1.out,hok,hx,hy,hDG];rfl)
   rw[hDT,hDE,hDG,show staV s=.agg (staL s).toArray from rfl,show staV DT=.agg (staL DT).toArray from rfl,show insV (⟨op,cond,n,⟨ak,ar,ab,ai,ac,ad⟩,⟨bk,br,bb,bi,bc,bd⟩,c,rep,len⟩:Ins)=.agg (insL ⟨op,cond,n,⟨ak,ar,ab,ai,ac,ad⟩,⟨bk,br,bb,bi,bc,bd⟩,c,rep,len⟩).toArray from rfl]at hdn
   have HDX:=Lib.hid hdn
   clear hok hx hy hdn hDT hDE hDG
   go_wp2_with (first
    |(refine wpList_load_mid rfl 29 (.tmp 4) rfl w.heap.size 0 rfl (staL s) _ HD.out.rt Tryz.underlying29 rfl info_sta ?_)
    |(refine wpList_load_mid rfl 34 (.tmp 5) rfl (w.heap.size+1) 0 rfl (insL ⟨op,cond,n,⟨ak,ar,ab,ai,ac,ad⟩,⟨bk,br,bb,bi,bc,bd⟩,c,rep,len⟩) _ HD.out.rin Tryz.underlying34 rfl info_ins ?_))
   ((with_reducible refine(HDX.out _ HD.out.bus).mono ?_);rintro e wd ⟨rfl,rd,bd'⟩)
   have HD:=Lib.hid (HD.out.wrote rd bd')
   clear rd bd'
   go_wp2_with (refine store_row rfl 29 (.tmp 6) (.tmp 111) rfl (w.heap.size+2) rfl (staL DT) rfl _ Tryz.underlying29 rfl info_sta (sta_one DT) HD.out.hasr ?_;intro Y hY hl;have HL:=Lib.hid hl;have HY:=Lib.hid (HD.out.res hY);clear hY hl)
   exact bodyPost_ret (results_cell_tmp rfl rfl rfl HL.out) rfl ⟨by rw[HT1.out,HE1.out];rfl,by rw[HG1.out];exact HY.out.bus,HY.out.but⟩
 |false=>
  obtain⟨Xa,hXa⟩:∃z,ldA g dd s ⟨ak,ar,ab,ai,ac,ad⟩ n=z:=⟨_,rfl⟩
  obtain⟨Ka,hKa⟩:∃z,ldO dd s ⟨ak,ar,ab,ai,ac,ad⟩ n=z:=⟨_,rfl⟩
  have HLa:=Lib.hid (fun u hu=>rload13_any rb R g cc dd s ⟨ak,ar,ab,ai,ac,ad⟩ n HS.out A0 A1 u hu)
  rw[hXa,hKa,show staV s=.agg (staL s).toArray from rfl,show opV (⟨ak,ar,ab,ai,ac,ad⟩:Opd)=.agg (opL' ⟨ak,ar,ab,ai,ac,ad⟩).toArray from rfl]at HLa
  have HXa:=Lib.hid hXa
  have HKa:=Lib.hid hKa
  have hwa:=IntKind.wrap_u32' Xa
  clear hXa hKa
  go_wp2_with (first
   |(refine wpList_load_mid rfl 29 (.tmp 4) rfl w.heap.size 0 rfl (staL s) _ HD.out.rt Tryz.underlying29 rfl info_sta ?_)
   |(refine wpList_load_mid rfl 32 (.tmp 76) rfl (w.heap.size+1) 3 rfl (opL' ⟨ak,ar,ab,ai,ac,ad⟩) _ HD.out.ra Tryz.underlying32 rfl info_opd1 ?_))
  ((with_reducible refine(HLa.out _ HD.out.bus).mono ?_);rintro e wa ⟨rfl,b1⟩)
  have HD:=Lib.hid (HD.out.below b1)
  have k0:wa.cell? ⟨w.heap.size+1,0,none⟩=some (.int .i64 op):=(cell_block HD.out.bi 0).1
  have k2:wa.cell? ⟨w.heap.size+1,2,none⟩=some (.int .i64 n):=(cell_block HD.out.bi 2).1
  have k9:wa.cell? ⟨w.heap.size+1,9,none⟩=some (.int .i64 bk):=(cell_block HD.out.bi 9).1
  clear b1
  cases Ka with
  |false=>
   have hok:okA dd s ⟨op,cond,n,⟨ak,ar,ab,ai,ac,ad⟩,⟨bk,br,bb,bi,bc,bd⟩,c,rep,len⟩=false:=by unfold okA;dsimp only;rw[HOB.out,HKa.out];rfl
   have HT1:=Lib.hid (show FT0=s by rw[←HFT1.out,hok];rfl)
   have HE1:=Lib.hid (show FE0=2 by rw[←HFE1.out,hok];rfl)
   have HG1:=Lib.hid (show FG0=g by rw[←HFG1.out,hok];rfl)
   clear hok
   go_wp2_with (first
    |(refine wpList_load_mid rfl 29 (.tmp 4) rfl w.heap.size 0 rfl (staL s) _ HD.out.rt Tryz.underlying29 rfl info_sta ?_)
    |(refine store_row rfl 29 (.tmp 6) (.tmp 85) rfl (w.heap.size+2) rfl (staL s) rfl _ Tryz.underlying29 rfl info_sta (sta_one s) HD.out.hasr ?_;intro Y hY hl;have HL:=Lib.hid hl;have HY:=Lib.hid (HD.out.res hY);clear hY hl))
   exact bodyPost_ret (results_cell_tmp rfl rfl rfl HL.out) rfl ⟨by rw[HT1.out,HE1.out];rfl,by rw[HG1.out];exact HY.out.bus,HY.out.but⟩
  |true=>
   by_cases hb0:bk=0
   ·subst hb0
    have hok:okA dd s ⟨op,cond,n,⟨ak,ar,ab,ai,ac,ad⟩,⟨0,br,bb,bi,bc,bd⟩,c,rep,len⟩=true:=by unfold okA;dsimp only;rw[HOB.out,HKa.out,Bool.false_or];rfl
    have hx:xA g dd s ⟨op,cond,n,⟨ak,ar,ab,ai,ac,ad⟩,⟨0,br,bb,bi,bc,bd⟩,c,rep,len⟩=(Xa%4294967296):=by unfold xA;dsimp only;rw[HOB.out,HXa.out];rfl
    have hy:yA g dd s ⟨op,cond,n,⟨ak,ar,ab,ai,ac,ad⟩,⟨0,br,bb,bi,bc,bd⟩,c,rep,len⟩=0:=by unfold yA;exact if_pos rfl
    have hdn:=fun u hu=>HDN.out rb R g cc dd s ⟨op,cond,n,⟨ak,ar,ab,ai,ac,ad⟩,⟨0,br,bb,bi,bc,bd⟩,c,rep,len⟩ (Xa%4294967296) 0 HS.out ⟨A0,A1⟩ ⟨B0,B1⟩ HC.out (by omega) (by omega) (by omega) (by omega) u hu
    obtain⟨DT,hDT⟩:∃z,doneT dd s ⟨op,cond,n,⟨ak,ar,ab,ai,ac,ad⟩,⟨0,br,bb,bi,bc,bd⟩,c,rep,len⟩ (Xa%4294967296) 0=z:=⟨_,rfl⟩
    obtain⟨DE,hDE⟩:∃z,doneE dd s ⟨op,cond,n,⟨ak,ar,ab,ai,ac,ad⟩,⟨0,br,bb,bi,bc,bd⟩,c,rep,len⟩ (Xa%4294967296) 0=z:=⟨_,rfl⟩
    obtain⟨DG,hDG⟩:∃z,doneG g dd s ⟨op,cond,n,⟨ak,ar,ab,ai,ac,ad⟩,⟨0,br,bb,bi,bc,bd⟩,c,rep,len⟩ (Xa%4294967296) 0=z:=⟨_,rfl⟩
    have HT1:=Lib.hid (show FT0=DT by rw[←HFT1.out,hok,hx,hy,hDT];rfl)
    have HE1:=Lib.hid (show FE0=DE by rw[←HFE1.out,hok,hx,hy,hDE];rfl)
    have HG1:=Lib.hid (show FG0=DG by rw[←HFG1.out,hok,hx,hy,hDG];rfl)
    rw[hDT,hDE,hDG,show staV s=.agg (staL s).toArray from rfl,show staV DT=.agg (staL DT).toArray from rfl,show insV (⟨op,cond,n,⟨ak,ar,ab,ai,ac,ad⟩,⟨0,br,bb,bi,bc,bd⟩,c,rep,len⟩:Ins)=.agg (insL ⟨op,cond,n,⟨ak,ar,ab,ai,ac,ad⟩,⟨0,br,bb,bi,bc,bd⟩,c,rep,len⟩).toArray from rfl]at hdn
    have HDX:=Lib.hid hdn
    clear hok hx hy hdn hDT hDE hDG
    go_wp2_with (first
     |(refine wpList_load_mid rfl 29 (.tmp 4) rfl w.heap.size 0 rfl (staL s) _ HD.out.rt Tryz.underlying29 rfl info_sta ?_)
     |(refine wpList_load_mid rfl 34 (.tmp 5) rfl (w.heap.size+1) 0 rfl (insL ⟨op,cond,n,⟨ak,ar,ab,ai,ac,ad⟩,⟨0,br,bb,bi,bc,bd⟩,c,rep,len⟩) _ HD.out.rin Tryz.underlying34 rfl info_ins ?_))
    ((with_reducible refine(HDX.out _ HD.out.bus).mono ?_);rintro e wd ⟨rfl,rd,bd'⟩)
    have HD:=Lib.hid (HD.out.wrote rd bd')
    clear rd bd'
    go_wp2_with (refine store_row rfl 29 (.tmp 6) (.tmp 111) rfl (w.heap.size+2) rfl (staL DT) rfl _ Tryz.underlying29 rfl info_sta (sta_one DT) HD.out.hasr ?_;intro Y hY hl;have HL:=Lib.hid hl;have HY:=Lib.hid (HD.out.res hY);clear hY hl)
    exact bodyPost_ret (results_cell_tmp rfl rfl rfl HL.out) rfl ⟨by rw[HT1.out,HE1.out];rfl,by rw[HG1.out];exact HY.out.bus,HY.out.but⟩
   have eb0:(bk != 0)=true:=by simpa using hb0
   have eb0':(bk==0)=false:=by simpa using hb0
   have HB0:=Lib.hid hb0
   clear hb0
   obtain⟨Xb,hXb⟩:∃z,ldA g dd s ⟨bk,br,bb,bi,bc,bd⟩ n=z:=⟨_,rfl⟩
   obtain⟨Kb,hKb⟩:∃z,ldO dd s ⟨bk,br,bb,bi,bc,bd⟩ n=z:=⟨_,rfl⟩
   have HLb:=Lib.hid (fun u hu=>rload13_any rb R g cc dd s ⟨bk,br,bb,bi,bc,bd⟩ n HS.out B0 B1 u hu)
   rw[hXb,hKb,show staV s=.agg (staL s).toArray from rfl,show opV (⟨bk,br,bb,bi,bc,bd⟩:Opd)=.agg (opL' ⟨bk,br,bb,bi,bc,bd⟩).toArray from rfl]at HLb
   have HXb:=Lib.hid hXb
   have HKb:=Lib.hid hKb
   have hwb:=IntKind.wrap_u32' Xb
   clear hXb hKb
   go_wp2_with (first
    |(refine wpList_load_mid rfl 29 (.tmp 4) rfl w.heap.size 0 rfl (staL s) _ HD.out.rt Tryz.underlying29 rfl info_sta ?_)
    |(refine wpList_load_mid rfl 32 (.tmp 93) rfl (w.heap.size+1) 9 rfl (opL' ⟨bk,br,bb,bi,bc,bd⟩) _ HD.out.rb' Tryz.underlying32 rfl info_opd1 ?_))
   ((with_reducible refine(HLb.out _ HD.out.bus).mono ?_);rintro e wb ⟨rfl,b1⟩)
   have HD:=Lib.hid (HD.out.below b1)
   have k0:wb.cell? ⟨w.heap.size+1,0,none⟩=some (.int .i64 op):=(cell_block HD.out.bi 0).1
   have k2:wb.cell? ⟨w.heap.size+1,2,none⟩=some (.int .i64 n):=(cell_block HD.out.bi 2).1
   have k9:wb.cell? ⟨w.heap.size+1,9,none⟩=some (.int .i64 bk):=(cell_block HD.out.bi 9).1
   clear b1
   cases Kb with
   |false=>
    have hok:okA dd s ⟨op,cond,n,⟨ak,ar,ab,ai,ac,ad⟩,⟨bk,br,bb,bi,bc,bd⟩,c,rep,len⟩=false:=by unfold okA;dsimp only;rw[HOB.out,HKa.out,Bool.false_or,HKb.out,eb0'];rfl
    have HT1:=Lib.hid (show FT0=s by rw[←HFT1.out,hok];rfl)
    have HE1:=Lib.hid (show FE0=2 by rw[←HFE1.out,hok];rfl)
    have HG1:=Lib.hid (show FG0=g by rw[←HFG1.out,hok];rfl)
    clear hok
    go_wp2_with (first
     |(refine wpList_load_mid rfl 29 (.tmp 4) rfl w.heap.size 0 rfl (staL s) _ HD.out.rt Tryz.underlying29 rfl info_sta ?_)
     |(refine store_row rfl 29 (.tmp 6) (.tmp 102) rfl (w.heap.size+2) rfl (staL s) rfl _ Tryz.underlying29 rfl info_sta (sta_one s) HD.out.hasr ?_;intro Y hY hl;have HL:=Lib.hid hl;have HY:=Lib.hid (HD.out.res hY);clear hY hl))
    exact bodyPost_ret (results_cell_tmp rfl rfl rfl HL.out) rfl ⟨by rw[HT1.out,HE1.out];rfl,by rw[HG1.out];exact HY.out.bus,HY.out.but⟩
   |true=>
    have hok:okA dd s ⟨op,cond,n,⟨ak,ar,ab,ai,ac,ad⟩,⟨bk,br,bb,bi,bc,bd⟩,c,rep,len⟩=true:=by unfold okA;dsimp only;rw[HOB.out,HKa.out,Bool.false_or,HKb.out];simp
    have hx:xA g dd s ⟨op,cond,n,⟨ak,ar,ab,ai,ac,ad⟩,⟨bk,br,bb,bi,bc,bd⟩,c,rep,len⟩=(Xa%4294967296):=by unfold xA;dsimp only;rw[HOB.out,HXa.out];rfl
    have hy:yA g dd s ⟨op,cond,n,⟨ak,ar,ab,ai,ac,ad⟩,⟨bk,br,bb,bi,bc,bd⟩,c,rep,len⟩=(Xb%4294967296):=by unfold yA;dsimp only;rw[if_neg HB0.out,HXb.out]
    have hdn:=fun u hu=>HDN.out rb R g cc dd s ⟨op,cond,n,⟨ak,ar,ab,ai,ac,ad⟩,⟨bk,br,bb,bi,bc,bd⟩,c,rep,len⟩ (Xa%4294967296) (Xb%4294967296) HS.out ⟨A0,A1⟩ ⟨B0,B1⟩ HC.out (by omega) (by omega) (by omega) (by omega) u hu
    obtain⟨DT,hDT⟩:∃z,doneT dd s ⟨op,cond,n,⟨ak,ar,ab,ai,ac,ad⟩,⟨bk,br,bb,bi,bc,bd⟩,c,rep,len⟩ (Xa%4294967296) (Xb%4294967296)=z:=⟨_,rfl⟩
    obtain⟨DE,hDE⟩:∃z,doneE dd s ⟨op,cond,n,⟨ak,ar,ab,ai,ac,ad⟩,⟨bk,br,bb,bi,bc,bd⟩,c,rep,len⟩ (Xa%4294967296) (Xb%4294967296)=z:=⟨_,rfl⟩
    obtain⟨DG,hDG⟩:∃z,doneG g dd s ⟨op,cond,n,⟨ak,ar,ab,ai,ac,ad⟩,⟨bk,br,bb,bi,bc,bd⟩,c,rep,len⟩ (Xa%4294967296) (Xb%4294967296)=z:=⟨_,rfl⟩
    have HT1:=Lib.hid (show FT0=DT by rw[←HFT1.out,hok,hx,hy,hDT];rfl)
    have HE1:=Lib.hid (show FE0=DE by rw[←HFE1.out,hok,hx,hy,hDE];rfl)
    have HG1:=Lib.hid (show FG0=DG by rw[←HFG1.out,hok,hx,hy,hDG];rfl)
    rw[hDT,hDE,hDG,show staV s=.agg (staL s).toArray from rfl,show staV DT=.agg (staL DT).toArray from rfl,show insV (⟨op,cond,n,⟨ak,ar,ab,ai,ac,ad⟩,⟨bk,br,bb,bi,bc,bd⟩,c,rep,len⟩:Ins)=.agg (insL ⟨op,cond,n,⟨ak,ar,ab,ai,ac,ad⟩,⟨bk,br,bb,bi,bc,bd⟩,c,rep,len⟩).toArray from rfl]at hdn
    have HDX:=Lib.hid hdn
    clear hok hx hy hdn hDT hDE hDG
    go_wp2_with (first
     |(refine wpList_load_mid rfl 29 (.tmp 4) rfl w.heap.size 0 rfl (staL s) _ HD.out.rt Tryz.underlying29 rfl info_sta ?_)
     |(refine wpList_load_mid rfl 34 (.tmp 5) rfl (w.heap.size+1) 0 rfl (insL ⟨op,cond,n,⟨ak,ar,ab,ai,ac,ad⟩,⟨bk,br,bb,bi,bc,bd⟩,c,rep,len⟩) _ HD.out.rin Tryz.underlying34 rfl info_ins ?_))
    ((with_reducible refine(HDX.out _ HD.out.bus).mono ?_);rintro e wd ⟨rfl,rd,bd'⟩)
    have HD:=Lib.hid (HD.out.wrote rd bd')
    clear rd bd'
    go_wp2_with (refine store_row rfl 29 (.tmp 6) (.tmp 111) rfl (w.heap.size+2) rfl (staL DT) rfl _ Tryz.underlying29 rfl info_sta (sta_one DT) HD.out.hasr ?_;intro Y hY hl;have HL:=Lib.hid hl;have HY:=Lib.hid (HD.out.res hY);clear hY hl)
    exact bodyPost_ret (results_cell_tmp rfl rfl rfl HL.out) rfl ⟨by rw[HT1.out,HE1.out];rfl,by rw[HG1.out];exact HY.out.bus,HY.out.but⟩
end Go.Proofs.YtmdncgfheeijaaaGreat
