import Derived.Deep.DeepCutAuto
import Derived.KernelRfl
import Derived.Test.YtmdncgfheeijaaaGreatKVG40
import Derived.Test.YtmdncgfheeijaaaGreatKVG42
namespace Go.Proofs.YtmdncgfheeijaaaGreat
open Go.ChangeShapes Go.WideShapes Go.ChangeAt Go.RowKit
section
attribute [local go_sem] isSome_setCell
set_option maxRecDepth 100000
set_option maxHeartbeats 16000000
theorem first_h1(c:Int)(h:c=104∨c=106∨c=132∨c=133∨c=134∨c=135∨c=136∨c=137∨c=138∨c=139)(reg:Int)(m3:Bool)(w:World):Calls Tryz.prog 20 #[.int .u8 c,.int .i64 reg,.bool m3] w fun e w'=>e=.returned (fstL (firstF c reg m3))∧Below w.heap.size w w':=by
 rcases h with rfl|rfl|rfl|rfl|rfl|rfl|rfl|rfl|rfl|rfl
 all_goals
  go_enter Tryz.func20,Tryz.ntmps20
  go_wp2_with (first|(go_at_call 44;refine(size4_any _ (by first|decide|omega) (by first|decide|omega) _).mono ?_;rintro e w' ⟨rfl,rfl⟩)|(go_at_call 45;refine(is_any _ _ _ _ (by first|decide|omega) (by first|decide|omega) _).mono ?_;rintro e w1 ⟨rfl,B1⟩;have HB:=Lib.hid (below_step (below_last (Below.refl _ _) _) B1);obtain⟨q1,hz⟩:=bcell B1;clear B1))
  refine bodyPost_ret (v:=fstL (firstF _ reg m3)) (by simp[results,Tryz.results20,go_sem,q1,fstL,firstF,isF]) rfl ⟨rfl,?_⟩
  exact below5 HB.out _ (Nat.le_refl _)
end
section
attribute [local go_sem] isSome_setCell
set_option maxRecDepth 100000
set_option maxHeartbeats 16000000
theorem first_h2(c:Int)(h:c=144∨c=152∨c=153∨c=160∨c=161∨c=162∨c=163∨c=164∨c=165∨c=168)(reg:Int)(m3:Bool)(w:World):Calls Tryz.prog 20 #[.int .u8 c,.int .i64 reg,.bool m3] w fun e w'=>e=.returned (fstL (firstF c reg m3))∧Below w.heap.size w w':=by
 rcases h with rfl|rfl|rfl|rfl|rfl|rfl|rfl|rfl|rfl|rfl
 all_goals
  go_enter Tryz.func20,Tryz.ntmps20
  go_wp2_with (first|(go_at_call 44;refine(size4_any _ (by first|decide|omega) (by first|decide|omega) _).mono ?_;rintro e w' ⟨rfl,rfl⟩)|(go_at_call 45;refine(is_any _ _ _ _ (by first|decide|omega) (by first|decide|omega) _).mono ?_;rintro e w1 ⟨rfl,B1⟩;have HB:=Lib.hid (below_step (below_last (Below.refl _ _) _) B1);obtain⟨q1,hz⟩:=bcell B1;clear B1))
  refine bodyPost_ret (v:=fstL (firstF _ reg m3)) (by simp[results,Tryz.results20,go_sem,q1,fstL,firstF,isF]) rfl ⟨rfl,?_⟩
  exact below5 HB.out _ (Nat.le_refl _)
end
section
attribute [local go_sem] isSome_setCell
set_option maxRecDepth 100000
set_option maxHeartbeats 16000000
theorem first_h3(c:Int)(h:c=169∨c=170∨c=171∨c=172∨c=173∨c=194∨c=195∨c=201∨c=204∨c=232)(reg:Int)(m3:Bool)(w:World):Calls Tryz.prog 20 #[.int .u8 c,.int .i64 reg,.bool m3] w fun e w'=>e=.returned (fstL (firstF c reg m3))∧Below w.heap.size w w':=by
 rcases h with rfl|rfl|rfl|rfl|rfl|rfl|rfl|rfl|rfl|rfl
 all_goals
  go_enter Tryz.func20,Tryz.ntmps20
  go_wp2_with (first|(go_at_call 44;refine(size4_any _ (by first|decide|omega) (by first|decide|omega) _).mono ?_;rintro e w' ⟨rfl,rfl⟩)|(go_at_call 45;refine(is_any _ _ _ _ (by first|decide|omega) (by first|decide|omega) _).mono ?_;rintro e w1 ⟨rfl,B1⟩;have HB:=Lib.hid (below_step (below_last (Below.refl _ _) _) B1);obtain⟨q1,hz⟩:=bcell B1;clear B1))
  refine bodyPost_ret (v:=fstL (firstF _ reg m3)) (by simp[results,Tryz.results20,go_sem,q1,fstL,firstF,isF]) rfl ⟨rfl,?_⟩
  exact below5 HB.out _ (Nat.le_refl _)
end
section
attribute [local go_sem] isSome_setCell
set_option maxRecDepth 100000
set_option maxHeartbeats 16000000
theorem first_h4(c:Int)(h:c=233∨c=235∨c=244∨c=245∨c=248∨c=249∨c=252∨c=253)(reg:Int)(m3:Bool)(w:World):Calls Tryz.prog 20 #[.int .u8 c,.int .i64 reg,.bool m3] w fun e w'=>e=.returned (fstL (firstF c reg m3))∧Below w.heap.size w w':=by
 rcases h with rfl|rfl|rfl|rfl|rfl|rfl|rfl|rfl
 all_goals
  go_enter Tryz.func20,Tryz.ntmps20
  go_wp2_with (first|(go_at_call 44;refine(size4_any _ (by first|decide|omega) (by first|decide|omega) _).mono ?_;rintro e w' ⟨rfl,rfl⟩)|(go_at_call 45;refine(is_any _ _ _ _ (by first|decide|omega) (by first|decide|omega) _).mono ?_;rintro e w1 ⟨rfl,B1⟩;have HB:=Lib.hid (below_step (below_last (Below.refl _ _) _) B1);obtain⟨q1,hz⟩:=bcell B1;clear B1))
  refine bodyPost_ret (v:=fstL (firstF _ reg m3)) (by simp[results,Tryz.results20,go_sem,q1,fstL,firstF,isF]) rfl ⟨rfl,?_⟩
  exact below5 HB.out _ (Nat.le_refl _)
end
section
attribute [local go_sem] isSome_setCell
set_option maxRecDepth 100000
def sz8(z:Int):Value:=.int .i64 (if z=128 then 1 else 4)
def hw8(z:Int):Value:=.string (if z=131 then⟨#[69,98]⟩else⟨#[69,73]⟩)
def grpC(c reg:Int):Array Value:=#[.int .i64 (grpF alus reg),.int .i64 0,sz8 c,hw8 c,.int .i64 (c%8)]
def grpV(c reg:Int)(R:Nat):Nat→Value→Value→World→(Nat→Nat)→Prop
 |0,v,_,_,_=>v=.int .u8 c
 |1,v,_,_,_=>v=.int .i64 reg
 |2,v,_,_,_=>v=.int .i64 (grpF alus reg)
 |3,v,_,_,g=>∃B,v=.map (some B)∧g B=1
 |4,_,x,u,g=>∃B,x=.map (some B)∧g B=1∧HasKey u B 128
 |5,_,x,u,g=>∃B,x=.map (some B)∧g B=1∧HasKey u B 129
 |6,_,x,u,g=>∃B,x=.map (some B)∧g B=1∧HasKey u B 131
 |7,v,_,u,g=>∃B,v=.map (some B)∧g B=1∧HasKey u B c
 |8,v,_,_,_=>v=.int .u8 c
 |9,v,_,_,_=>v=sz8 c
 |10,v,_,_,g=>∃B,v=.map (some B)∧g B=2
 |11,_,x,u,g=>∃B,x=.map (some B)∧g B=2∧HasKey u B 128
 |12,_,x,u,g=>∃B,x=.map (some B)∧g B=2∧HasKey u B 129
 |13,_,x,u,g=>∃B,x=.map (some B)∧g B=2∧HasKey u B 131
 |14,v,_,u,g=>∃B,v=.map (some B)∧g B=2∧HasKey u B c
 |15,v,_,_,_=>v=.int .u8 c
 |16,v,_,_,_=>v=hw8 c
 |17,v,_,_,_=>v=.tuple #[.agg (grpC c reg),.bool (grpF alus reg != 0),.bool false]
 |18,v,_,_,_=>v=.agg (grpC c reg)
 |19,v,_,_,_=>v=.bool (grpF alus reg != 0)
 |20,v,_,_,_=>v=.bool false
 |21,_,_,u,_=>Full R (grpC c reg) u
 |22,v,_,_,_=>v=.bool (grpF alus reg != 0)
 |23,v,_,_,_=>v=.bool false
 |_,_,_,_,_=>True
theorem grpV_stays{c reg:Int}{R:Nat}(i:Nat)(v x:Value)(u:World)(g:Nat→Nat)(u':World)(g':Nat→Nat)(h:grpV c reg R i v x u g)(k:KG R (grpC c reg) u g u' g'):grpV c reg R i v x u' g':=by
 unfold grpV at h ⊢
 split at h
 all_goals first
  |exact h
  |exact k.cells.2 h
  |(obtain⟨B,h1,h2,h3⟩:=h;exact⟨B,h1,by rw[k.kind B (by omega)];exact h2,k.has B _ (by omega) h3⟩)
  |(obtain⟨B,h1,h2⟩:=h;exact⟨B,h1,by rw[k.kind B (by omega)];exact h2⟩)
def grpP(i:Nat):Nat:=if i=4∨i=5∨i=6 then 3 else if i=11∨i=12∨i=13 then 10 else i
def grpN(i:Nat):Bool:=i==4 || i==5 || i==6 || i==11 || i==12 || i==13 || i==21
set_option maxHeartbeats 4000000
theorem first_128y(reg:Int)(m3:Bool)(r0:0≤reg)(r1:reg<8)(w:World):Calls Tryz.prog 20 #[.int .u8 128,.int .i64 reg,.bool m3] w fun e w'=>e=.returned (fstL (firstF 128 reg m3))∧Below w.heap.size w w':=by
 have HX:=Lib.hid (show firstF 128 reg m3=isF 128 (grpF alus reg) 1 [69,73]by show byF 128 reg alus 1 [69,73]=_;unfold byF;rw[if_neg (by omega)])
 have HA:=Lib.hid (alu_any reg r0 r1)
 have HI:=Lib.hid (is_any 128 (grpF alus reg) 1 ⟨([69,73]:List UInt8).toArray⟩ (by decide) (by decide))
 have hd:decide (reg<0)=false:=decide_eq_false (by omega)
 go_enter Tryz.func20,Tryz.ntmps20
 go_upto_region 37 with(go_at_call 44;refine(size4_any _ (by first|decide|omega) (by first|decide|omega) _).mono ?_;rintro e w' ⟨rfl,rfl⟩)
 refine wp_region_mind (γ:=Nat→Nat) (by kernel_rfl) grpN grpP (by kernel_rfl) (fun _=>0) (KInv w w.heap.size 5 sz8 hw8) (KG w.heap.size (grpC 128 reg)) (grpV 128 reg w.heap.size) grpV_stays (KG.refl _ _) ?_ ?_ ?_
 ·exact⟨RInv.drawn ⟨below_last (Below.refl _ _) _,by simp,fun i hi=>by
   have h5:i=0∨i=1∨i=2∨i=3∨i=4:=by omega
   rcases h5 with rfl|rfl|rfl|rfl|rfl<;>simp,fun i=>by simp⟩,fun B hB=>absurd rfl hB,(fun B hB=>by cases hB),(fun B hB=>by cases hB)⟩
 ·intro i o b u g ho hinv hsz hbase hdep
  have hi:i<24:=(Array.getElem?_eq_some_iff.1 ho).1
  have b0:b.tmps.getD 0 undef=.int .u8 128:=hbase 0 (by kernel_rfl)
  have b1:b.tmps.getD 1 undef=.int .i64 reg:=hbase 1 (by kernel_rfl)
  have b6:b.tmps.getD 6 undef=.pointer (some ⟨w.heap.size,0,none⟩):=hbase 6 (by kernel_rfl)
  clear hbase hsz
  have h22:i=0∨i=1∨i=2∨i=3∨i=4∨i=5∨i=6∨i=7∨i=8∨i=9∨i=10∨i=11∨i=12∨i=13∨i=14∨i=15∨i=16∨i=17∨i=18∨i=19∨i=20∨i=21∨i=22∨i=23:=by omega
  rcases h22 with rfl|rfl|rfl|rfl|rfl|rfl|rfl|rfl|rfl|rfl|rfl|rfl|rfl|rfl|rfl|rfl|rfl|rfl|rfl|rfl|rfl|rfl|rfl|rfl
  ·cases ho
   exact wp_val (by simp[execOp,Act.eval,b0]<;>rfl) ⟨_,g,rfl,hinv,KG.refl _ _ _ _,rfl⟩
  ·cases ho
   exact wp_val (by simp[execOp,Act.eval,b1]<;>rfl) ⟨_,g,rfl,hinv,KG.refl _ _ _ _,rfl⟩
  ·cases ho
   have d1:b.tmps.getD 192 undef=.int .i64 reg:=hdep 1 (by kernel_rfl)
   refine wp_call (by simp[execOp,Act.eval,d1,go_sem]<;>rfl) ((HA.out u).mono ?_)
   rintro e u' ⟨rfl,hb⟩
   exact⟨_,rfl,_,g,rfl,(hinv.ext (grpC 128 reg) hb).1,(hinv.ext (grpC 128 reg) hb).2,rfl⟩
  ·cases ho
   obtain⟨g',m1,m2,m3'⟩:=hinv.new (grpC 128 reg) 1
   exact wp_val (by simp[execOp,run_makeMap,Result.andThen]<;>rfl) ⟨_,g',rfl,m1,m2,_,rfl,m3'⟩
  ·cases ho
   obtain⟨B,e1,e2⟩:=hdep 3 (by kernel_rfl)
   have d3:b.tmps.getD 194 undef=.map (some B):=e1
   obtain⟨u',m1,m2,m3',m4⟩:=hinv.put (grpC 128 reg) 100 5 3 Tryz.underlying100 Tryz.underlying5 B sz8 (.inl ⟨e2,rfl⟩) 128
   rw[show sz8 128=.int .i64 1 by simp[sz8]]at m1
   exact wp_skip (by simp[execOp,Act.eval,d3,m1,Result.andThen]<;>rfl) ⟨_,g,rfl,m2,m3',B,e1,e2,m4⟩
  ·cases ho
   obtain⟨B,e1,e2⟩:=hdep 3 (by kernel_rfl)
   have d3:b.tmps.getD 194 undef=.map (some B):=e1
   obtain⟨u',m1,m2,m3',m4⟩:=hinv.put (grpC 128 reg) 100 5 3 Tryz.underlying100 Tryz.underlying5 B sz8 (.inl ⟨e2,rfl⟩) 129
   rw[show sz8 129=.int .i64 4 by simp[sz8]]at m1
   exact wp_skip (by simp[execOp,Act.eval,d3,m1,Result.andThen]<;>rfl) ⟨_,g,rfl,m2,m3',B,e1,e2,m4⟩
  ·cases ho
   obtain⟨B,e1,e2⟩:=hdep 3 (by kernel_rfl)
   have d3:b.tmps.getD 194 undef=.map (some B):=e1
   obtain⟨u',m1,m2,m3',m4⟩:=hinv.put (grpC 128 reg) 100 5 3 Tryz.underlying100 Tryz.underlying5 B sz8 (.inl ⟨e2,rfl⟩) 131
   rw[show sz8 131=.int .i64 4 by simp[sz8]]at m1
   exact wp_skip (by simp[execOp,Act.eval,d3,m1,Result.andThen]<;>rfl) ⟨_,g,rfl,m2,m3',B,e1,e2,m4⟩
  ·cases ho
   obtain⟨B,e1,e2,e3⟩:=hdep 4 (by kernel_rfl)
   have d3:b.tmps.getD 194 undef=.map (some B):=e1
   exact wp_val (by simp[execOp,Act.eval,d3]<;>rfl) ⟨_,g,rfl,hinv,KG.refl _ _ _ _,B,rfl,e2,e3⟩
  ·cases ho
   exact wp_val (by simp[execOp,Act.eval,b0]<;>rfl) ⟨_,g,rfl,hinv,KG.refl _ _ _ _,rfl⟩
  ·cases ho
   obtain⟨B,e1,e2,e3⟩:=hdep 7 (by kernel_rfl)
   have d7:b.tmps.getD 195 undef=.map (some B):=e1
   have d8:b.tmps.getD 196 undef=.int .u8 128:=hdep 8 (by kernel_rfl)
   have m1:=map_get 100 5 3 Tryz.underlying100 Tryz.underlying5 (hinv.one B e2) 128 e3
   exact wp_val (by simp[execOp,Act.eval,d7,d8,m1,Result.andThen]<;>rfl) ⟨_,g,rfl,hinv,KG.refl _ _ _ _,rfl⟩
  ·cases ho
   obtain⟨g',m1,m2,m3'⟩:=hinv.new (grpC 128 reg) 2
   exact wp_val (by simp[execOp,run_makeMap,Result.andThen]<;>rfl) ⟨_,g',rfl,m1,m2,_,rfl,m3'⟩
  ·cases ho
   obtain⟨B,e1,e2⟩:=hdep 10 (by kernel_rfl)
   have d10:b.tmps.getD 198 undef=.map (some B):=e1
   obtain⟨u',m1,m2,m3',m4⟩:=hinv.put (grpC 128 reg) 99 5 9 Tryz.underlying99 Tryz.underlying5 B hw8 (.inr ⟨e2,rfl⟩) 128
   rw[show hw8 128=.string ⟨#[69,73]⟩by simp[hw8]]at m1
   exact wp_skip (by simp[execOp,Act.eval,d10,m1,Result.andThen]<;>rfl) ⟨_,g,rfl,m2,m3',B,e1,e2,m4⟩
  ·cases ho
   obtain⟨B,e1,e2⟩:=hdep 10 (by kernel_rfl)
   have d10:b.tmps.getD 198 undef=.map (some B):=e1
   obtain⟨u',m1,m2,m3',m4⟩:=hinv.put (grpC 128 reg) 99 5 9 Tryz.underlying99 Tryz.underlying5 B hw8 (.inr ⟨e2,rfl⟩) 129
   rw[show hw8 129=.string ⟨#[69,73]⟩by simp[hw8]]at m1
   exact wp_skip (by simp[execOp,Act.eval,d10,m1,Result.andThen]<;>rfl) ⟨_,g,rfl,m2,m3',B,e1,e2,m4⟩
  ·cases ho
   obtain⟨B,e1,e2⟩:=hdep 10 (by kernel_rfl)
   have d10:b.tmps.getD 198 undef=.map (some B):=e1
   obtain⟨u',m1,m2,m3',m4⟩:=hinv.put (grpC 128 reg) 99 5 9 Tryz.underlying99 Tryz.underlying5 B hw8 (.inr ⟨e2,rfl⟩) 131
   rw[show hw8 131=.string ⟨#[69,98]⟩by simp[hw8]]at m1
   exact wp_skip (by simp[execOp,Act.eval,d10,m1,Result.andThen]<;>rfl) ⟨_,g,rfl,m2,m3',B,e1,e2,m4⟩
  ·cases ho
   obtain⟨B,e1,e2,e3⟩:=hdep 11 (by kernel_rfl)
   have d10:b.tmps.getD 198 undef=.map (some B):=e1
   exact wp_val (by simp[execOp,Act.eval,d10]<;>rfl) ⟨_,g,rfl,hinv,KG.refl _ _ _ _,B,rfl,e2,e3⟩
  ·cases ho
   exact wp_val (by simp[execOp,Act.eval,b0]<;>rfl) ⟨_,g,rfl,hinv,KG.refl _ _ _ _,rfl⟩
  ·cases ho
   obtain⟨B,e1,e2,e3⟩:=hdep 14 (by kernel_rfl)
   have d14:b.tmps.getD 199 undef=.map (some B):=e1
   have d15:b.tmps.getD 200 undef=.int .u8 128:=hdep 15 (by kernel_rfl)
   have m1:=map_get 99 5 9 Tryz.underlying99 Tryz.underlying5 (hinv.two B e2) 128 e3
   exact wp_val (by simp[execOp,Act.eval,d14,d15,m1,Result.andThen]<;>rfl) ⟨_,g,rfl,hinv,KG.refl _ _ _ _,rfl⟩
  ·cases ho
   have d0:b.tmps.getD 191 undef=.int .u8 128:=hdep 0 (by kernel_rfl)
   have d2:b.tmps.getD 193 undef=.int .i64 (grpF alus reg):=hdep 2 (by kernel_rfl)
   have d9:b.tmps.getD 197 undef=sz8 128:=hdep 9 (by kernel_rfl)
   have d16:b.tmps.getD 201 undef=hw8 128:=hdep 16 (by kernel_rfl)
   refine wp_call (by simp[execOp,Act.eval,d0,d2,d9,d16,sz8,hw8,go_sem]<;>rfl) ((HI.out u).mono ?_)
   rintro e u' ⟨rfl,hb⟩
   exact⟨_,rfl,_,g,rfl,(hinv.ext (grpC 128 reg) hb).1,(hinv.ext (grpC 128 reg) hb).2,rfl⟩
  ·cases ho
   have d17:b.tmps.getD 202 undef=.tuple #[.agg (grpC 128 reg),.bool (grpF alus reg != 0),.bool false]:=hdep 17 (by kernel_rfl)
   exact wp_val (by simp[execOp,Act.eval,d17,go_sem]<;>rfl) ⟨_,g,rfl,hinv,KG.refl _ _ _ _,rfl⟩
  ·cases ho
   have d17:b.tmps.getD 202 undef=.tuple #[.agg (grpC 128 reg),.bool (grpF alus reg != 0),.bool false]:=hdep 17 (by kernel_rfl)
   exact wp_val (by simp[execOp,Act.eval,d17,go_sem]<;>rfl) ⟨_,g,rfl,hinv,KG.refl _ _ _ _,rfl⟩
  ·cases ho
   have d17:b.tmps.getD 202 undef=.tuple #[.agg (grpC 128 reg),.bool (grpF alus reg != 0),.bool false]:=hdep 17 (by kernel_rfl)
   exact wp_val (by simp[execOp,Act.eval,d17,go_sem]<;>rfl) ⟨_,g,rfl,hinv,KG.refl _ _ _ _,rfl⟩
  ·cases ho
   have d18:b.tmps.getD 203 undef=.agg (grpC 128 reg):=hdep 18 (by kernel_rfl)
   obtain⟨x0,e0⟩:=Option.isSome_iff_exists.1 (hinv.inv.there 0 (by decide))
   have z0:=hinv.inv.froz 0
   obtain⟨x1,e1⟩:=Option.isSome_iff_exists.1 (hinv.inv.there 1 (by decide))
   have z1:=hinv.inv.froz 1
   obtain⟨x2,e2⟩:=Option.isSome_iff_exists.1 (hinv.inv.there 2 (by decide))
   have z2:=hinv.inv.froz 2
   obtain⟨x3,e3⟩:=Option.isSome_iff_exists.1 (hinv.inv.there 3 (by decide))
   have z3:=hinv.inv.froz 3
   obtain⟨x4,e4⟩:=Option.isSome_iff_exists.1 (hinv.inv.there 4 (by decide))
   have z4:=hinv.inv.froz 4
   obtain⟨f1,f2,f3⟩:=hinv.five (.int .i64 (grpF alus reg)) (.int .i64 0) (sz8 128) (hw8 128) (.int .i64 (128%8))
   exact wp_skip (by simp[execOp,Act.eval,d18,b6,grpC,sz8,hw8,go_sem,e0,e1,e2,e3,e4,z0,z1,z2,z3,z4]<;>rfl) ⟨_,g,rfl,f1,f2,f3⟩
  ·cases ho
   have d19:b.tmps.getD 204 undef=.bool (grpF alus reg != 0):=hdep 19 (by kernel_rfl)
   exact wp_val (by simp[execOp,Act.eval,d19]<;>rfl) ⟨_,g,rfl,hinv,KG.refl _ _ _ _,rfl⟩
  ·cases ho
   have d20:b.tmps.getD 205 undef=.bool false:=hdep 20 (by kernel_rfl)
   exact wp_val (by simp[execOp,Act.eval,d20]<;>rfl) ⟨_,g,rfl,hinv,KG.refl _ _ _ _,rfl⟩
 ·intro f u g hinv hV
  have q20:f 22=.bool (grpF alus reg != 0):=hV 22 (by decide)
  have q21:f 23=.bool false:=hV 23 (by decide)
  have qF:=hV 21 (by decide)
  generalize hb:laid _ f _ _=b
  have b6:b.tmps.getD 6 undef=.pointer (some ⟨w.heap.size,0,none⟩):=by rw[←hb];kernel_rfl
  have b7:b.tmps.getD 7 undef=.bool (grpF alus reg != 0):=by rw[←hb,←q20];kernel_rfl
  have b8:b.tmps.getD 8 undef=.bool false:=by rw[←hb,←q21];kernel_rfl
  have bd:b.defers=[]:=by rw[←hb];kernel_rfl
  clear hb
  rw[Array.getD_eq_getD_getElem?]at b6 b7 b8
  go_wp2_with fail
  have w0:u.cell? ⟨w.heap.size,0,none⟩=some (Value.int .i64 (grpF alus reg)):=qF 0 _ rfl
  have w1:u.cell? ⟨w.heap.size,1,none⟩=some (Value.int .i64 0):=qF 1 _ rfl
  have w2:u.cell? ⟨w.heap.size,2,none⟩=some (Value.int .i64 1):=qF 2 _ rfl
  have w3:u.cell? ⟨w.heap.size,3,none⟩=some (Value.string ⟨([69,73]:List UInt8).toArray⟩):=qF 3 _ rfl
  have w4:u.cell? ⟨w.heap.size,4,none⟩=some (Value.int .i64 0):=qF 4 _ rfl
  refine bodyPost_ret (v:=.tuple #[.agg #[.int .i64 (grpF alus reg),.int .i64 0,.int .i64 1,.string ⟨([69,73]:List UInt8).toArray⟩,.int .i64 0],.bool (grpF alus reg != 0),.bool false]) (by simp[results,Tryz.results20,go_sem,b6,b7,b8,w0,w1,w2,w3,w4]) bd ⟨by rw[HX.out];rfl,hinv.inv.below⟩
theorem first_129y(reg:Int)(m3:Bool)(r0:0≤reg)(r1:reg<8)(w:World):Calls Tryz.prog 20 #[.int .u8 129,.int .i64 reg,.bool m3] w fun e w'=>e=.returned (fstL (firstF 129 reg m3))∧Below w.heap.size w w':=by
 have HX:=Lib.hid (show firstF 129 reg m3=isF 129 (grpF alus reg) 4 [69,73]by show byF 129 reg alus 4 [69,73]=_;unfold byF;rw[if_neg (by omega)])
 have HA:=Lib.hid (alu_any reg r0 r1)
 have HI:=Lib.hid (is_any 129 (grpF alus reg) 4 ⟨([69,73]:List UInt8).toArray⟩ (by decide) (by decide))
 have hd:decide (reg<0)=false:=decide_eq_false (by omega)
 go_enter Tryz.func20,Tryz.ntmps20
 go_upto_region 37 with(go_at_call 44;refine(size4_any _ (by first|decide|omega) (by first|decide|omega) _).mono ?_;rintro e w' ⟨rfl,rfl⟩)
 refine wp_region_mind (γ:=Nat→Nat) (by kernel_rfl) grpN grpP (by kernel_rfl) (fun _=>0) (KInv w w.heap.size 5 sz8 hw8) (KG w.heap.size (grpC 129 reg)) (grpV 129 reg w.heap.size) grpV_stays (KG.refl _ _) ?_ ?_ ?_
 ·exact⟨RInv.drawn ⟨below_last (Below.refl _ _) _,by simp,fun i hi=>by
   have h5:i=0∨i=1∨i=2∨i=3∨i=4:=by omega
   rcases h5 with rfl|rfl|rfl|rfl|rfl<;>simp,fun i=>by simp⟩,fun B hB=>absurd rfl hB,(fun B hB=>by cases hB),(fun B hB=>by cases hB)⟩
 ·intro i o b u g ho hinv hsz hbase hdep
  have hi:i<24:=(Array.getElem?_eq_some_iff.1 ho).1
  have b0:b.tmps.getD 0 undef=.int .u8 129:=hbase 0 (by kernel_rfl)
  have b1:b.tmps.getD 1 undef=.int .i64 reg:=hbase 1 (by kernel_rfl)
  have b6:b.tmps.getD 6 undef=.pointer (some ⟨w.heap.size,0,none⟩):=hbase 6 (by kernel_rfl)
  clear hbase hsz
  have h22:i=0∨i=1∨i=2∨i=3∨i=4∨i=5∨i=6∨i=7∨i=8∨i=9∨i=10∨i=11∨i=12∨i=13∨i=14∨i=15∨i=16∨i=17∨i=18∨i=19∨i=20∨i=21∨i=22∨i=23:=by omega
  rcases h22 with rfl|rfl|rfl|rfl|rfl|rfl|rfl|rfl|rfl|rfl|rfl|rfl|rfl|rfl|rfl|rfl|rfl|rfl|rfl|rfl|rfl|rfl|rfl|rfl
  ·cases ho
   exact wp_val (by simp[execOp,Act.eval,b0]<;>rfl) ⟨_,g,rfl,hinv,KG.refl _ _ _ _,rfl⟩
  ·cases ho
   exact wp_val (by simp[execOp,Act.eval,b1]<;>rfl) ⟨_,g,rfl,hinv,KG.refl _ _ _ _,rfl⟩
  ·cases ho
   have d1:b.tmps.getD 192 undef=.int .i64 reg:=hdep 1 (by kernel_rfl)
   refine wp_call (by simp[execOp,Act.eval,d1,go_sem]<;>rfl) ((HA.out u).mono ?_)
   rintro e u' ⟨rfl,hb⟩
   exact⟨_,rfl,_,g,rfl,(hinv.ext (grpC 129 reg) hb).1,(hinv.ext (grpC 129 reg) hb).2,rfl⟩
  ·cases ho
   obtain⟨g',m1,m2,m3'⟩:=hinv.new (grpC 129 reg) 1
   exact wp_val (by simp[execOp,run_makeMap,Result.andThen]<;>rfl) ⟨_,g',rfl,m1,m2,_,rfl,m3'⟩
  ·cases ho
   obtain⟨B,e1,e2⟩:=hdep 3 (by kernel_rfl)
   have d3:b.tmps.getD 194 undef=.map (some B):=e1
   obtain⟨u',m1,m2,m3',m4⟩:=hinv.put (grpC 129 reg) 100 5 3 Tryz.underlying100 Tryz.underlying5 B sz8 (.inl ⟨e2,rfl⟩) 128
   rw[show sz8 128=.int .i64 1 by simp[sz8]]at m1
   exact wp_skip (by simp[execOp,Act.eval,d3,m1,Result.andThen]<;>rfl) ⟨_,g,rfl,m2,m3',B,e1,e2,m4⟩
  ·cases ho
   obtain⟨B,e1,e2⟩:=hdep 3 (by kernel_rfl)
   have d3:b.tmps.getD 194 undef=.map (some B):=e1
   obtain⟨u',m1,m2,m3',m4⟩:=hinv.put (grpC 129 reg) 100 5 3 Tryz.underlying100 Tryz.underlying5 B sz8 (.inl ⟨e2,rfl⟩) 129
   rw[show sz8 129=.int .i64 4 by simp[sz8]]at m1
   exact wp_skip (by simp[execOp,Act.eval,d3,m1,Result.andThen]<;>rfl) ⟨_,g,rfl,m2,m3',B,e1,e2,m4⟩
  ·cases ho
   obtain⟨B,e1,e2⟩:=hdep 3 (by kernel_rfl)
   have d3:b.tmps.getD 194 undef=.map (some B):=e1
   obtain⟨u',m1,m2,m3',m4⟩:=hinv.put (grpC 129 reg) 100 5 3 Tryz.underlying100 Tryz.underlying5 B sz8 (.inl ⟨e2,rfl⟩) 131
   rw[show sz8 131=.int .i64 4 by simp[sz8]]at m1
   exact wp_skip (by simp[execOp,Act.eval,d3,m1,Result.andThen]<;>rfl) ⟨_,g,rfl,m2,m3',B,e1,e2,m4⟩
  ·cases ho
   obtain⟨B,e1,e2,e3⟩:=hdep 5 (by kernel_rfl)
   have d3:b.tmps.getD 194 undef=.map (some B):=e1
   exact wp_val (by simp[execOp,Act.eval,d3]<;>rfl) ⟨_,g,rfl,hinv,KG.refl _ _ _ _,B,rfl,e2,e3⟩
  ·cases ho
   exact wp_val (by simp[execOp,Act.eval,b0]<;>rfl) ⟨_,g,rfl,hinv,KG.refl _ _ _ _,rfl⟩
  ·cases ho
   obtain⟨B,e1,e2,e3⟩:=hdep 7 (by kernel_rfl)
   have d7:b.tmps.getD 195 undef=.map (some B):=e1
   have d8:b.tmps.getD 196 undef=.int .u8 129:=hdep 8 (by kernel_rfl)
   have m1:=map_get 100 5 3 Tryz.underlying100 Tryz.underlying5 (hinv.one B e2) 129 e3
   exact wp_val (by simp[execOp,Act.eval,d7,d8,m1,Result.andThen]<;>rfl) ⟨_,g,rfl,hinv,KG.refl _ _ _ _,rfl⟩
  ·cases ho
   obtain⟨g',m1,m2,m3'⟩:=hinv.new (grpC 129 reg) 2
   exact wp_val (by simp[execOp,run_makeMap,Result.andThen]<;>rfl) ⟨_,g',rfl,m1,m2,_,rfl,m3'⟩
  ·cases ho
   obtain⟨B,e1,e2⟩:=hdep 10 (by kernel_rfl)
   have d10:b.tmps.getD 198 undef=.map (some B):=e1
   obtain⟨u',m1,m2,m3',m4⟩:=hinv.put (grpC 129 reg) 99 5 9 Tryz.underlying99 Tryz.underlying5 B hw8 (.inr ⟨e2,rfl⟩) 128
   rw[show hw8 128=.string ⟨#[69,73]⟩by simp[hw8]]at m1
   exact wp_skip (by simp[execOp,Act.eval,d10,m1,Result.andThen]<;>rfl) ⟨_,g,rfl,m2,m3',B,e1,e2,m4⟩
  ·cases ho
   obtain⟨B,e1,e2⟩:=hdep 10 (by kernel_rfl)
   have d10:b.tmps.getD 198 undef=.map (some B):=e1
   obtain⟨u',m1,m2,m3',m4⟩:=hinv.put (grpC 129 reg) 99 5 9 Tryz.underlying99 Tryz.underlying5 B hw8 (.inr ⟨e2,rfl⟩) 129
   rw[show hw8 129=.string ⟨#[69,73]⟩by simp[hw8]]at m1
   exact wp_skip (by simp[execOp,Act.eval,d10,m1,Result.andThen]<;>rfl) ⟨_,g,rfl,m2,m3',B,e1,e2,m4⟩
  ·cases ho
   obtain⟨B,e1,e2⟩:=hdep 10 (by kernel_rfl)
   have d10:b.tmps.getD 198 undef=.map (some B):=e1
   obtain⟨u',m1,m2,m3',m4⟩:=hinv.put (grpC 129 reg) 99 5 9 Tryz.underlying99 Tryz.underlying5 B hw8 (.inr ⟨e2,rfl⟩) 131
   rw[show hw8 131=.string ⟨#[69,98]⟩by simp[hw8]]at m1
   exact wp_skip (by simp[execOp,Act.eval,d10,m1,Result.andThen]<;>rfl) ⟨_,g,rfl,m2,m3',B,e1,e2,m4⟩
  ·cases ho
   obtain⟨B,e1,e2,e3⟩:=hdep 12 (by kernel_rfl)
   have d10:b.tmps.getD 198 undef=.map (some B):=e1
   exact wp_val (by simp[execOp,Act.eval,d10]<;>rfl) ⟨_,g,rfl,hinv,KG.refl _ _ _ _,B,rfl,e2,e3⟩
  ·cases ho
   exact wp_val (by simp[execOp,Act.eval,b0]<;>rfl) ⟨_,g,rfl,hinv,KG.refl _ _ _ _,rfl⟩
  ·cases ho
   obtain⟨B,e1,e2,e3⟩:=hdep 14 (by kernel_rfl)
   have d14:b.tmps.getD 199 undef=.map (some B):=e1
   have d15:b.tmps.getD 200 undef=.int .u8 129:=hdep 15 (by kernel_rfl)
   have m1:=map_get 99 5 9 Tryz.underlying99 Tryz.underlying5 (hinv.two B e2) 129 e3
   exact wp_val (by simp[execOp,Act.eval,d14,d15,m1,Result.andThen]<;>rfl) ⟨_,g,rfl,hinv,KG.refl _ _ _ _,rfl⟩
  ·cases ho
   have d0:b.tmps.getD 191 undef=.int .u8 129:=hdep 0 (by kernel_rfl)
   have d2:b.tmps.getD 193 undef=.int .i64 (grpF alus reg):=hdep 2 (by kernel_rfl)
   have d9:b.tmps.getD 197 undef=sz8 129:=hdep 9 (by kernel_rfl)
   have d16:b.tmps.getD 201 undef=hw8 129:=hdep 16 (by kernel_rfl)
   refine wp_call (by simp[execOp,Act.eval,d0,d2,d9,d16,sz8,hw8,go_sem]<;>rfl) ((HI.out u).mono ?_)
   rintro e u' ⟨rfl,hb⟩
   exact⟨_,rfl,_,g,rfl,(hinv.ext (grpC 129 reg) hb).1,(hinv.ext (grpC 129 reg) hb).2,rfl⟩
  ·cases ho
   have d17:b.tmps.getD 202 undef=.tuple #[.agg (grpC 129 reg),.bool (grpF alus reg != 0),.bool false]:=hdep 17 (by kernel_rfl)
   exact wp_val (by simp[execOp,Act.eval,d17,go_sem]<;>rfl) ⟨_,g,rfl,hinv,KG.refl _ _ _ _,rfl⟩
  ·cases ho
   have d17:b.tmps.getD 202 undef=.tuple #[.agg (grpC 129 reg),.bool (grpF alus reg != 0),.bool false]:=hdep 17 (by kernel_rfl)
   exact wp_val (by simp[execOp,Act.eval,d17,go_sem]<;>rfl) ⟨_,g,rfl,hinv,KG.refl _ _ _ _,rfl⟩
  ·cases ho
   have d17:b.tmps.getD 202 undef=.tuple #[.agg (grpC 129 reg),.bool (grpF alus reg != 0),.bool false]:=hdep 17 (by kernel_rfl)
   exact wp_val (by simp[execOp,Act.eval,d17,go_sem]<;>rfl) ⟨_,g,rfl,hinv,KG.refl _ _ _ _,rfl⟩
  ·cases ho
   have d18:b.tmps.getD 203 undef=.agg (grpC 129 reg):=hdep 18 (by kernel_rfl)
   obtain⟨x0,e0⟩:=Option.isSome_iff_exists.1 (hinv.inv.there 0 (by decide))
   have z0:=hinv.inv.froz 0
   obtain⟨x1,e1⟩:=Option.isSome_iff_exists.1 (hinv.inv.there 1 (by decide))
   have z1:=hinv.inv.froz 1
   obtain⟨x2,e2⟩:=Option.isSome_iff_exists.1 (hinv.inv.there 2 (by decide))
   have z2:=hinv.inv.froz 2
   obtain⟨x3,e3⟩:=Option.isSome_iff_exists.1 (hinv.inv.there 3 (by decide))
   have z3:=hinv.inv.froz 3
   obtain⟨x4,e4⟩:=Option.isSome_iff_exists.1 (hinv.inv.there 4 (by decide))
   have z4:=hinv.inv.froz 4
   obtain⟨f1,f2,f3⟩:=hinv.five (.int .i64 (grpF alus reg)) (.int .i64 0) (sz8 129) (hw8 129) (.int .i64 (129%8))
   exact wp_skip (by simp[execOp,Act.eval,d18,b6,grpC,sz8,hw8,go_sem,e0,e1,e2,e3,e4,z0,z1,z2,z3,z4]<;>rfl) ⟨_,g,rfl,f1,f2,f3⟩
  ·cases ho
   have d19:b.tmps.getD 204 undef=.bool (grpF alus reg != 0):=hdep 19 (by kernel_rfl)
   exact wp_val (by simp[execOp,Act.eval,d19]<;>rfl) ⟨_,g,rfl,hinv,KG.refl _ _ _ _,rfl⟩
  ·cases ho
   have d20:b.tmps.getD 205 undef=.bool false:=hdep 20 (by kernel_rfl)
   exact wp_val (by simp[execOp,Act.eval,d20]<;>rfl) ⟨_,g,rfl,hinv,KG.refl _ _ _ _,rfl⟩
 ·intro f u g hinv hV
  have q20:f 22=.bool (grpF alus reg != 0):=hV 22 (by decide)
  have q21:f 23=.bool false:=hV 23 (by decide)
  have qF:=hV 21 (by decide)
  generalize hb:laid _ f _ _=b
  have b6:b.tmps.getD 6 undef=.pointer (some ⟨w.heap.size,0,none⟩):=by rw[←hb];kernel_rfl
  have b7:b.tmps.getD 7 undef=.bool (grpF alus reg != 0):=by rw[←hb,←q20];kernel_rfl
  have b8:b.tmps.getD 8 undef=.bool false:=by rw[←hb,←q21];kernel_rfl
  have bd:b.defers=[]:=by rw[←hb];kernel_rfl
  clear hb
  rw[Array.getD_eq_getD_getElem?]at b6 b7 b8
  go_wp2_with fail
  have w0:u.cell? ⟨w.heap.size,0,none⟩=some (Value.int .i64 (grpF alus reg)):=qF 0 _ rfl
  have w1:u.cell? ⟨w.heap.size,1,none⟩=some (Value.int .i64 0):=qF 1 _ rfl
  have w2:u.cell? ⟨w.heap.size,2,none⟩=some (Value.int .i64 4):=qF 2 _ rfl
  have w3:u.cell? ⟨w.heap.size,3,none⟩=some (Value.string ⟨([69,73]:List UInt8).toArray⟩):=qF 3 _ rfl
  have w4:u.cell? ⟨w.heap.size,4,none⟩=some (Value.int .i64 1):=qF 4 _ rfl
  refine bodyPost_ret (v:=.tuple #[.agg #[.int .i64 (grpF alus reg),.int .i64 0,.int .i64 4,.string ⟨([69,73]:List UInt8).toArray⟩,.int .i64 1],.bool (grpF alus reg != 0),.bool false]) (by simp[results,Tryz.results20,go_sem,b6,b7,b8,w0,w1,w2,w3,w4]) bd ⟨by rw[HX.out];rfl,hinv.inv.below⟩
theorem first_131y(reg:Int)(m3:Bool)(r0:0≤reg)(r1:reg<8)(w:World):Calls Tryz.prog 20 #[.int .u8 131,.int .i64 reg,.bool m3] w fun e w'=>e=.returned (fstL (firstF 131 reg m3))∧Below w.heap.size w w':=by
 have HX:=Lib.hid (show firstF 131 reg m3=isF 131 (grpF alus reg) 4 [69,98]by show byF 131 reg alus 4 [69,98]=_;unfold byF;rw[if_neg (by omega)])
 have HA:=Lib.hid (alu_any reg r0 r1)
 have HI:=Lib.hid (is_any 131 (grpF alus reg) 4 ⟨([69,98]:List UInt8).toArray⟩ (by decide) (by decide))
 have hd:decide (reg<0)=false:=decide_eq_false (by omega)
 go_enter Tryz.func20,Tryz.ntmps20
 go_upto_region 37 with(go_at_call 44;refine(size4_any _ (by first|decide|omega) (by first|decide|omega) _).mono ?_;rintro e w' ⟨rfl,rfl⟩)
 refine wp_region_mind (γ:=Nat→Nat) (by kernel_rfl) grpN grpP (by kernel_rfl) (fun _=>0) (KInv w w.heap.size 5 sz8 hw8) (KG w.heap.size (grpC 131 reg)) (grpV 131 reg w.heap.size) grpV_stays (KG.refl _ _) ?_ ?_ ?_
 ·exact⟨RInv.drawn ⟨below_last (Below.refl _ _) _,by simp,fun i hi=>by
   have h5:i=0∨i=1∨i=2∨i=3∨i=4:=by omega
   rcases h5 with rfl|rfl|rfl|rfl|rfl<;>simp,fun i=>by simp⟩,fun B hB=>absurd rfl hB,(fun B hB=>by cases hB),(fun B hB=>by cases hB)⟩
 ·intro i o b u g ho hinv hsz hbase hdep
  have hi:i<24:=(Array.getElem?_eq_some_iff.1 ho).1
  have b0:b.tmps.getD 0 undef=.int .u8 131:=hbase 0 (by kernel_rfl)
  have b1:b.tmps.getD 1 undef=.int .i64 reg:=hbase 1 (by kernel_rfl)
  have b6:b.tmps.getD 6 undef=.pointer (some ⟨w.heap.size,0,none⟩):=hbase 6 (by kernel_rfl)
  clear hbase hsz
  have h22:i=0∨i=1∨i=2∨i=3∨i=4∨i=5∨i=6∨i=7∨i=8∨i=9∨i=10∨i=11∨i=12∨i=13∨i=14∨i=15∨i=16∨i=17∨i=18∨i=19∨i=20∨i=21∨i=22∨i=23:=by omega
  rcases h22 with rfl|rfl|rfl|rfl|rfl|rfl|rfl|rfl|rfl|rfl|rfl|rfl|rfl|rfl|rfl|rfl|rfl|rfl|rfl|rfl|rfl|rfl|rfl|rfl
  ·cases ho
   exact wp_val (by simp[execOp,Act.eval,b0]<;>rfl) ⟨_,g,rfl,hinv,KG.refl _ _ _ _,rfl⟩
  ·cases ho
   exact wp_val (by simp[execOp,Act.eval,b1]<;>rfl) ⟨_,g,rfl,hinv,KG.refl _ _ _ _,rfl⟩
  ·cases ho
   have d1:b.tmps.getD 192 undef=.int .i64 reg:=hdep 1 (by kernel_rfl)
   refine wp_call (by simp[execOp,Act.eval,d1,go_sem]<;>rfl) ((HA.out u).mono ?_)
   rintro e u' ⟨rfl,hb⟩
   exact⟨_,rfl,_,g,rfl,(hinv.ext (grpC 131 reg) hb).1,(hinv.ext (grpC 131 reg) hb).2,rfl⟩
  ·cases ho
   obtain⟨g',m1,m2,m3'⟩:=hinv.new (grpC 131 reg) 1
   exact wp_val (by simp[execOp,run_makeMap,Result.andThen]<;>rfl) ⟨_,g',rfl,m1,m2,_,rfl,m3'⟩
  ·cases ho
   obtain⟨B,e1,e2⟩:=hdep 3 (by kernel_rfl)
   have d3:b.tmps.getD 194 undef=.map (some B):=e1
   obtain⟨u',m1,m2,m3',m4⟩:=hinv.put (grpC 131 reg) 100 5 3 Tryz.underlying100 Tryz.underlying5 B sz8 (.inl ⟨e2,rfl⟩) 128
   rw[show sz8 128=.int .i64 1 by simp[sz8]]at m1
   exact wp_skip (by simp[execOp,Act.eval,d3,m1,Result.andThen]<;>rfl) ⟨_,g,rfl,m2,m3',B,e1,e2,m4⟩
  ·cases ho
   obtain⟨B,e1,e2⟩:=hdep 3 (by kernel_rfl)
   have d3:b.tmps.getD 194 undef=.map (some B):=e1
   obtain⟨u',m1,m2,m3',m4⟩:=hinv.put (grpC 131 reg) 100 5 3 Tryz.underlying100 Tryz.underlying5 B sz8 (.inl ⟨e2,rfl⟩) 129
   rw[show sz8 129=.int .i64 4 by simp[sz8]]at m1
   exact wp_skip (by simp[execOp,Act.eval,d3,m1,Result.andThen]<;>rfl) ⟨_,g,rfl,m2,m3',B,e1,e2,m4⟩
  ·cases ho
   obtain⟨B,e1,e2⟩:=hdep 3 (by kernel_rfl)
   have d3:b.tmps.getD 194 undef=.map (some B):=e1
   obtain⟨u',m1,m2,m3',m4⟩:=hinv.put (grpC 131 reg) 100 5 3 Tryz.underlying100 Tryz.underlying5 B sz8 (.inl ⟨e2,rfl⟩) 131
   rw[show sz8 131=.int .i64 4 by simp[sz8]]at m1
   exact wp_skip (by simp[execOp,Act.eval,d3,m1,Result.andThen]<;>rfl) ⟨_,g,rfl,m2,m3',B,e1,e2,m4⟩
  ·cases ho
   obtain⟨B,e1,e2,e3⟩:=hdep 6 (by kernel_rfl)
   have d3:b.tmps.getD 194 undef=.map (some B):=e1
   exact wp_val (by simp[execOp,Act.eval,d3]<;>rfl) ⟨_,g,rfl,hinv,KG.refl _ _ _ _,B,rfl,e2,e3⟩
  ·cases ho
   exact wp_val (by simp[execOp,Act.eval,b0]<;>rfl) ⟨_,g,rfl,hinv,KG.refl _ _ _ _,rfl⟩
  ·cases ho
   obtain⟨B,e1,e2,e3⟩:=hdep 7 (by kernel_rfl)
   have d7:b.tmps.getD 195 undef=.map (some B):=e1
   have d8:b.tmps.getD 196 undef=.int .u8 131:=hdep 8 (by kernel_rfl)
   have m1:=map_get 100 5 3 Tryz.underlying100 Tryz.underlying5 (hinv.one B e2) 131 e3
   exact wp_val (by simp[execOp,Act.eval,d7,d8,m1,Result.andThen]<;>rfl) ⟨_,g,rfl,hinv,KG.refl _ _ _ _,rfl⟩
  ·cases ho
   obtain⟨g',m1,m2,m3'⟩:=hinv.new (grpC 131 reg) 2
   exact wp_val (by simp[execOp,run_makeMap,Result.andThen]<;>rfl) ⟨_,g',rfl,m1,m2,_,rfl,m3'⟩
  ·cases ho
   obtain⟨B,e1,e2⟩:=hdep 10 (by kernel_rfl)
   have d10:b.tmps.getD 198 undef=.map (some B):=e1
   obtain⟨u',m1,m2,m3',m4⟩:=hinv.put (grpC 131 reg) 99 5 9 Tryz.underlying99 Tryz.underlying5 B hw8 (.inr ⟨e2,rfl⟩) 128
   rw[show hw8 128=.string ⟨#[69,73]⟩by simp[hw8]]at m1
   exact wp_skip (by simp[execOp,Act.eval,d10,m1,Result.andThen]<;>rfl) ⟨_,g,rfl,m2,m3',B,e1,e2,m4⟩
  ·cases ho
   obtain⟨B,e1,e2⟩:=hdep 10 (by kernel_rfl)
   have d10:b.tmps.getD 198 undef=.map (some B):=e1
   obtain⟨u',m1,m2,m3',m4⟩:=hinv.put (grpC 131 reg) 99 5 9 Tryz.underlying99 Tryz.underlying5 B hw8 (.inr ⟨e2,rfl⟩) 129
   rw[show hw8 129=.string ⟨#[69,73]⟩by simp[hw8]]at m1
   exact wp_skip (by simp[execOp,Act.eval,d10,m1,Result.andThen]<;>rfl) ⟨_,g,rfl,m2,m3',B,e1,e2,m4⟩
  ·cases ho
   obtain⟨B,e1,e2⟩:=hdep 10 (by kernel_rfl)
   have d10:b.tmps.getD 198 undef=.map (some B):=e1
   obtain⟨u',m1,m2,m3',m4⟩:=hinv.put (grpC 131 reg) 99 5 9 Tryz.underlying99 Tryz.underlying5 B hw8 (.inr ⟨e2,rfl⟩) 131
   rw[show hw8 131=.string ⟨#[69,98]⟩by simp[hw8]]at m1
   exact wp_skip (by simp[execOp,Act.eval,d10,m1,Result.andThen]<;>rfl) ⟨_,g,rfl,m2,m3',B,e1,e2,m4⟩
  ·cases ho
   obtain⟨B,e1,e2,e3⟩:=hdep 13 (by kernel_rfl)
   have d10:b.tmps.getD 198 undef=.map (some B):=e1
   exact wp_val (by simp[execOp,Act.eval,d10]<;>rfl) ⟨_,g,rfl,hinv,KG.refl _ _ _ _,B,rfl,e2,e3⟩
  ·cases ho
   exact wp_val (by simp[execOp,Act.eval,b0]<;>rfl) ⟨_,g,rfl,hinv,KG.refl _ _ _ _,rfl⟩
  ·cases ho
   obtain⟨B,e1,e2,e3⟩:=hdep 14 (by kernel_rfl)
   have d14:b.tmps.getD 199 undef=.map (some B):=e1
   have d15:b.tmps.getD 200 undef=.int .u8 131:=hdep 15 (by kernel_rfl)
   have m1:=map_get 99 5 9 Tryz.underlying99 Tryz.underlying5 (hinv.two B e2) 131 e3
   exact wp_val (by simp[execOp,Act.eval,d14,d15,m1,Result.andThen]<;>rfl) ⟨_,g,rfl,hinv,KG.refl _ _ _ _,rfl⟩
  ·cases ho
   have d0:b.tmps.getD 191 undef=.int .u8 131:=hdep 0 (by kernel_rfl)
   have d2:b.tmps.getD 193 undef=.int .i64 (grpF alus reg):=hdep 2 (by kernel_rfl)
   have d9:b.tmps.getD 197 undef=sz8 131:=hdep 9 (by kernel_rfl)
   have d16:b.tmps.getD 201 undef=hw8 131:=hdep 16 (by kernel_rfl)
   refine wp_call (by simp[execOp,Act.eval,d0,d2,d9,d16,sz8,hw8,go_sem]<;>rfl) ((HI.out u).mono ?_)
   rintro e u' ⟨rfl,hb⟩
   exact⟨_,rfl,_,g,rfl,(hinv.ext (grpC 131 reg) hb).1,(hinv.ext (grpC 131 reg) hb).2,rfl⟩
  ·cases ho
   have d17:b.tmps.getD 202 undef=.tuple #[.agg (grpC 131 reg),.bool (grpF alus reg != 0),.bool false]:=hdep 17 (by kernel_rfl)
   exact wp_val (by simp[execOp,Act.eval,d17,go_sem]<;>rfl) ⟨_,g,rfl,hinv,KG.refl _ _ _ _,rfl⟩
  ·cases ho
   have d17:b.tmps.getD 202 undef=.tuple #[.agg (grpC 131 reg),.bool (grpF alus reg != 0),.bool false]:=hdep 17 (by kernel_rfl)
   exact wp_val (by simp[execOp,Act.eval,d17,go_sem]<;>rfl) ⟨_,g,rfl,hinv,KG.refl _ _ _ _,rfl⟩
  ·cases ho
   have d17:b.tmps.getD 202 undef=.tuple #[.agg (grpC 131 reg),.bool (grpF alus reg != 0),.bool false]:=hdep 17 (by kernel_rfl)
   exact wp_val (by simp[execOp,Act.eval,d17,go_sem]<;>rfl) ⟨_,g,rfl,hinv,KG.refl _ _ _ _,rfl⟩
  ·cases ho
   have d18:b.tmps.getD 203 undef=.agg (grpC 131 reg):=hdep 18 (by kernel_rfl)
   obtain⟨x0,e0⟩:=Option.isSome_iff_exists.1 (hinv.inv.there 0 (by decide))
   have z0:=hinv.inv.froz 0
   obtain⟨x1,e1⟩:=Option.isSome_iff_exists.1 (hinv.inv.there 1 (by decide))
   have z1:=hinv.inv.froz 1
   obtain⟨x2,e2⟩:=Option.isSome_iff_exists.1 (hinv.inv.there 2 (by decide))
   have z2:=hinv.inv.froz 2
   obtain⟨x3,e3⟩:=Option.isSome_iff_exists.1 (hinv.inv.there 3 (by decide))
   have z3:=hinv.inv.froz 3
   obtain⟨x4,e4⟩:=Option.isSome_iff_exists.1 (hinv.inv.there 4 (by decide))
   have z4:=hinv.inv.froz 4
   obtain⟨f1,f2,f3⟩:=hinv.five (.int .i64 (grpF alus reg)) (.int .i64 0) (sz8 131) (hw8 131) (.int .i64 (131%8))
   exact wp_skip (by simp[execOp,Act.eval,d18,b6,grpC,sz8,hw8,go_sem,e0,e1,e2,e3,e4,z0,z1,z2,z3,z4]<;>rfl) ⟨_,g,rfl,f1,f2,f3⟩
  ·cases ho
   have d19:b.tmps.getD 204 undef=.bool (grpF alus reg != 0):=hdep 19 (by kernel_rfl)
   exact wp_val (by simp[execOp,Act.eval,d19]<;>rfl) ⟨_,g,rfl,hinv,KG.refl _ _ _ _,rfl⟩
  ·cases ho
   have d20:b.tmps.getD 205 undef=.bool false:=hdep 20 (by kernel_rfl)
   exact wp_val (by simp[execOp,Act.eval,d20]<;>rfl) ⟨_,g,rfl,hinv,KG.refl _ _ _ _,rfl⟩
 ·intro f u g hinv hV
  have q20:f 22=.bool (grpF alus reg != 0):=hV 22 (by decide)
  have q21:f 23=.bool false:=hV 23 (by decide)
  have qF:=hV 21 (by decide)
  generalize hb:laid _ f _ _=b
  have b6:b.tmps.getD 6 undef=.pointer (some ⟨w.heap.size,0,none⟩):=by rw[←hb];kernel_rfl
  have b7:b.tmps.getD 7 undef=.bool (grpF alus reg != 0):=by rw[←hb,←q20];kernel_rfl
  have b8:b.tmps.getD 8 undef=.bool false:=by rw[←hb,←q21];kernel_rfl
  have bd:b.defers=[]:=by rw[←hb];kernel_rfl
  clear hb
  rw[Array.getD_eq_getD_getElem?]at b6 b7 b8
  go_wp2_with fail
  have w0:u.cell? ⟨w.heap.size,0,none⟩=some (Value.int .i64 (grpF alus reg)):=qF 0 _ rfl
  have w1:u.cell? ⟨w.heap.size,1,none⟩=some (Value.int .i64 0):=qF 1 _ rfl
  have w2:u.cell? ⟨w.heap.size,2,none⟩=some (Value.int .i64 4):=qF 2 _ rfl
  have w3:u.cell? ⟨w.heap.size,3,none⟩=some (Value.string ⟨([69,98]:List UInt8).toArray⟩):=qF 3 _ rfl
  have w4:u.cell? ⟨w.heap.size,4,none⟩=some (Value.int .i64 3):=qF 4 _ rfl
  refine bodyPost_ret (v:=.tuple #[.agg #[.int .i64 (grpF alus reg),.int .i64 0,.int .i64 4,.string ⟨([69,98]:List UInt8).toArray⟩,.int .i64 3],.bool (grpF alus reg != 0),.bool false]) (by simp[results,Tryz.results20,go_sem,b6,b7,b8,w0,w1,w2,w3,w4]) bd ⟨by rw[HX.out];rfl,hinv.inv.below⟩
end
set_option maxRecDepth 100000
theorem first_any(c reg:Int)(m3:Bool)(c0:0≤c)(c1:c<256)(r0:-1≤reg)(r1:reg<8)(w:World):Calls Tryz.prog 20 #[.int .u8 c,.int .i64 reg,.bool m3] w fun e w'=>e=.returned (fstL (firstF c reg m3))∧Below w.heap.size w w':=by
 by_cases l0:c<64∧c%8<6
 ·exact first_low c c0 l0.1 l0.2 reg m3 w
 by_cases l64:64≤c∧c<72
 ·exact first_r64 c l64.1 l64.2 reg m3 w
 by_cases l72:72≤c∧c<80
 ·exact first_r72 c l72.1 l72.2 reg m3 w
 by_cases l80:80≤c∧c<88
 ·exact first_r80 c l80.1 l80.2 reg m3 w
 by_cases l88:88≤c∧c<96
 ·exact first_r88 c l88.1 l88.2 reg m3 w
 by_cases l112:112≤c∧c<128
 ·exact first_jcc c l112.1 l112.2 reg m3 w
 by_cases l145:145≤c∧c<152
 ·exact first_r145 c l145.1 l145.2 reg m3 w
 by_cases l176:176≤c∧c<184
 ·exact first_r176 c l176.1 l176.2 reg m3 w
 by_cases l184:184≤c∧c<192
 ·exact first_r184 c l184.1 l184.2 reg m3 w
 by_cases n104:c=104
 ·subst n104
  exact first_h1 104 (by decide) reg m3 w
 by_cases n106:c=106
 ·subst n106
  exact first_h1 106 (by decide) reg m3 w
 by_cases n105:c=105
 ·subst n105
  exact first_105 reg m3 w
 by_cases n107:c=107
 ·subst n107
  exact first_107 reg m3 w
 by_cases n128:c=128
 ·subst n128
  by_cases h:reg<0
  ·exact first_128n reg m3 h w
  ·exact first_128y reg m3 (by omega) r1 w
 by_cases n129:c=129
 ·subst n129
  by_cases h:reg<0
  ·exact first_129n reg m3 h w
  ·exact first_129y reg m3 (by omega) r1 w
 by_cases n131:c=131
 ·subst n131
  by_cases h:reg<0
  ·exact first_131n reg m3 h w
  ·exact first_131y reg m3 (by omega) r1 w
 by_cases n132:c=132
 ·subst n132
  exact first_h1 132 (by decide) reg m3 w
 by_cases n133:c=133
 ·subst n133
  exact first_h1 133 (by decide) reg m3 w
 by_cases n134:c=134
 ·subst n134
  exact first_h1 134 (by decide) reg m3 w
 by_cases n135:c=135
 ·subst n135
  exact first_h1 135 (by decide) reg m3 w
 by_cases n136:c=136
 ·subst n136
  exact first_h1 136 (by decide) reg m3 w
 by_cases n137:c=137
 ·subst n137
  exact first_h1 137 (by decide) reg m3 w
 by_cases n138:c=138
 ·subst n138
  exact first_h1 138 (by decide) reg m3 w
 by_cases n139:c=139
 ·subst n139
  exact first_h1 139 (by decide) reg m3 w
 by_cases n141:c=141
 ·subst n141
  by_cases h:reg<0
  ·exact first_141n reg m3 h w
  ·exact first_141y reg m3 (by omega) w
 by_cases n143:c=143
 ·subst n143
  exact first_143 reg m3 r0 r1 w
 by_cases n144:c=144
 ·subst n144
  exact first_h2 144 (by decide) reg m3 w
 by_cases n152:c=152
 ·subst n152
  exact first_h2 152 (by decide) reg m3 w
 by_cases n153:c=153
 ·subst n153
  exact first_h2 153 (by decide) reg m3 w
 by_cases n160:c=160
 ·subst n160
  exact first_h2 160 (by decide) reg m3 w
 by_cases n161:c=161
 ·subst n161
  exact first_h2 161 (by decide) reg m3 w
 by_cases n162:c=162
 ·subst n162
  exact first_h2 162 (by decide) reg m3 w
 by_cases n163:c=163
 ·subst n163
  exact first_h2 163 (by decide) reg m3 w
 by_cases n164:c=164
 ·subst n164
  exact first_h2 164 (by decide) reg m3 w
 by_cases n165:c=165
 ·subst n165
  exact first_h2 165 (by decide) reg m3 w
 by_cases n168:c=168
 ·subst n168
  exact first_h2 168 (by decide) reg m3 w
 by_cases n169:c=169
 ·subst n169
  exact first_h3 169 (by decide) reg m3 w
 by_cases n170:c=170
 ·subst n170
  exact first_h3 170 (by decide) reg m3 w
 by_cases n171:c=171
 ·subst n171
  exact first_h3 171 (by decide) reg m3 w
 by_cases n172:c=172
 ·subst n172
  exact first_h3 172 (by decide) reg m3 w
 by_cases n173:c=173
 ·subst n173
  exact first_h3 173 (by decide) reg m3 w
 by_cases n193:c=193
 ·subst n193
  exact first_193 reg m3 r0 r1 w
 by_cases n209:c=209
 ·subst n209
  exact first_209 reg m3 r0 r1 w
 by_cases n211:c=211
 ·subst n211
  exact first_211 reg m3 r0 r1 w
 by_cases n194:c=194
 ·subst n194
  exact first_h3 194 (by decide) reg m3 w
 by_cases n195:c=195
 ·subst n195
  exact first_h3 195 (by decide) reg m3 w
 by_cases n198:c=198
 ·subst n198
  exact first_198 reg m3 r0 r1 w
 by_cases n199:c=199
 ·subst n199
  exact first_199 reg m3 r0 r1 w
 by_cases n201:c=201
 ·subst n201
  exact first_h3 201 (by decide) reg m3 w
 by_cases n204:c=204
 ·subst n204
  exact first_h3 204 (by decide) reg m3 w
 by_cases n244:c=244
 ·subst n244
  exact first_h4 244 (by decide) reg m3 w
 by_cases n232:c=232
 ·subst n232
  exact first_h3 232 (by decide) reg m3 w
 by_cases n233:c=233
 ·subst n233
  exact first_h4 233 (by decide) reg m3 w
 by_cases n235:c=235
 ·subst n235
  exact first_h4 235 (by decide) reg m3 w
 by_cases n245:c=245
 ·subst n245
  exact first_h4 245 (by decide) reg m3 w
 by_cases n248:c=248
 ·subst n248
  exact first_h4 248 (by decide) reg m3 w
 by_cases n249:c=249
 ·subst n249
  exact first_h4 249 (by decide) reg m3 w
 by_cases n252:c=252
 ·subst n252
  exact first_h4 252 (by decide) reg m3 w
 by_cases n253:c=253
 ·subst n253
  exact first_h4 253 (by decide) reg m3 w
 by_cases n246:c=246
 ·subst n246
  by_cases h:reg=0
  ·subst h;exact first_246z m3 w
  ·exact first_246b reg m3 r0 r1 h w
 by_cases n247:c=247
 ·subst n247
  by_cases h:reg=0
  ·subst h;exact first_247z m3 w
  ·exact first_247b reg m3 r0 r1 h w
 by_cases n254:c=254
 ·subst n254
  exact first_254 reg m3 r0 r1 w
 by_cases n255:c=255
 ·subst n255
  exact first_255 reg m3 r0 r1 w
 by_cases z0:0≤c∧c<64
 ·exact first_n0 c z0.1 z0.2 (by omega) ⟨n104,n106,n105,n107,n128,n129,n131,n132,n133,n134,n135,n136,n137,n138,n139,n141,n143,n144,n152,n153,n160,n161,n162,n163,n164,n165,n168,n169,n170,n171,n172,n173,n193,n209,n211,n194,n195,n198,n199,n201,n204,n244,n232,n233,n235,n245,n248,n249,n252,n253,n246,n247,n254,n255⟩ reg m3 w
 by_cases z96:96≤c∧c<112
 ·exact first_n96 c z96.1 z96.2 ⟨n104,n106,n105,n107,n128,n129,n131,n132,n133,n134,n135,n136,n137,n138,n139,n141,n143,n144,n152,n153,n160,n161,n162,n163,n164,n165,n168,n169,n170,n171,n172,n173,n193,n209,n211,n194,n195,n198,n199,n201,n204,n244,n232,n233,n235,n245,n248,n249,n252,n253,n246,n247,n254,n255⟩ reg m3 w
 by_cases z128:128≤c∧c<145
 ·exact first_n128 c z128.1 z128.2 ⟨n104,n106,n105,n107,n128,n129,n131,n132,n133,n134,n135,n136,n137,n138,n139,n141,n143,n144,n152,n153,n160,n161,n162,n163,n164,n165,n168,n169,n170,n171,n172,n173,n193,n209,n211,n194,n195,n198,n199,n201,n204,n244,n232,n233,n235,n245,n248,n249,n252,n253,n246,n247,n254,n255⟩ reg m3 w
 by_cases z152:152≤c∧c<176
 ·exact first_n152 c z152.1 z152.2 ⟨n104,n106,n105,n107,n128,n129,n131,n132,n133,n134,n135,n136,n137,n138,n139,n141,n143,n144,n152,n153,n160,n161,n162,n163,n164,n165,n168,n169,n170,n171,n172,n173,n193,n209,n211,n194,n195,n198,n199,n201,n204,n244,n232,n233,n235,n245,n248,n249,n252,n253,n246,n247,n254,n255⟩ reg m3 w
 by_cases z192:192≤c∧c<256
 ·exact first_n192 c z192.1 z192.2 ⟨n104,n106,n105,n107,n128,n129,n131,n132,n133,n134,n135,n136,n137,n138,n139,n141,n143,n144,n152,n153,n160,n161,n162,n163,n164,n165,n168,n169,n170,n171,n172,n173,n193,n209,n211,n194,n195,n198,n199,n201,n204,n244,n232,n233,n235,n245,n248,n249,n252,n253,n246,n247,n254,n255⟩ reg m3 w
 omega
end Go.Proofs.YtmdncgfheeijaaaGreat
