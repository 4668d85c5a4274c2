import Derived.Deep.DeepCutAuto
import Derived.KernelRfl
import Derived.Test.YtmdncgfheeijaaaGreatKUG40
namespace Go.Proofs.YtmdncgfheeijaaaGreat
open Go.ChangeShapes Go.WideShapes Go.ChangeAt Go.RowKit
set_option maxRecDepth 100000
def MapOf(u:World)(B:Nat)(T:Int→Value):Prop:=∃es clk,u.heap[B]?=some (.map es clk)∧∀x∈es.toList,∃z,x.key=.int .u8 z∧x.val=T z
def HasKey(u:World)(B:Nat)(z:Int):Prop:=∃es clk,u.heap[B]?=some (.map es clk)∧∃x,x∈es.toList∧x.key=.int .u8 z
theorem map_put{P:Program}{u:World}{B:Nat}{T:Int→Value}(mty kt et:TypeId)(hm:P.underlying mty=some (.map kt et))(hk:P.underlying kt=some (.int .u8))(h:MapOf u B T)(z:Int):
  ∃o,(Instr.mapUpdate mty (.map (some B)) (.int .u8 z) (T z)).run P u=.ok () { u with heap:=u.heap.setIfInBounds B o }∧(∃es clk,u.heap[B]?=some (.map es clk))∧(∃es clk,o=.map es clk)∧MapOf { u with heap:=u.heap.setIfInBounds B o } B T∧HasKey { u with heap:=u.heap.setIfInBounds B o } B z∧∀z',HasKey u B z'→HasKey { u with heap:=u.heap.setIfInBounds B o } B z':=by
 obtain⟨es,clk,hb,hT⟩:=h
 have hK:MapKept.IsKey (.int .u8) (.int .u8 z):=by simp[MapKept.IsKey]
 have hks:∀x∈es.toList,MapKept.IsKey (.int .u8) x.key:=fun x hx=>by
  obtain⟨q,hq,_⟩:=hT x hx
  rw[hq];simp[MapKept.IsKey]
 have hset:∀o,(u.heap.setIfInBounds B o)[B]?=some o:=fun o=>(MapKept.heap_set hb).1
 rcases MapKept.findNow_spec hK es.toList 0 hks with⟨h1,h2⟩|⟨j,e,h1,h2,h3⟩
 ·refine⟨.map (es.push { key:=.int .u8 z,val:=T z,born:=clk }) (clk+1),?_,⟨es,clk,hb⟩,⟨_,_,rfl⟩,⟨_,_,hset _,?_⟩,⟨_,_,hset _,⟨{ key:=.int .u8 z,val:=T z,born:=clk },by simp,rfl⟩⟩,?_⟩
  ·simp[Instr.mapUpdate,run_underlying hm,MapKept.run_getObj_map hb,MapKept.run_checkKey hk hK,MapKept.run_findKey hk h1,MapKept.run_setObj_map _ hb,Result.andThen]
  ·intro x hx
   simp only[Array.toList_push,List.mem_append,List.mem_singleton]at hx
   rcases hx with hx|rfl
   ·exact hT x hx
   ·exact⟨z,rfl,rfl⟩
  ·rintro z' ⟨es',clk',hb',x,hx,hxk⟩
   rw[hb]at hb'
   cases hb'
   exact⟨_,_,hset _,x,by simp only[Array.toList_push,List.mem_append];exact .inl hx,hxk⟩
 ·have hj:es[j]?=some e:=by simpa using h2
  obtain⟨q,hq,hv⟩:=hT e (List.mem_of_getElem? (by simpa using h2))
  obtain rfl:q=z:=by rw[hq]at h3;injection h3
  refine⟨.map (es.modify j fun e=>{ e with key:=.int .u8 q,val:=T q }) clk,?_,⟨es,clk,hb⟩,⟨_,_,rfl⟩,?_⟩
  ·simp[Instr.mapUpdate,run_underlying hm,MapKept.run_getObj_map hb,MapKept.run_checkKey hk hK,MapKept.run_findKey hk h1,hj,h3,MapKept.run_keyThatStays hK,MapKept.run_setObj_map _ hb,Result.andThen]
  ·have hkeys:∀x,x∈(es.modify j fun e=>{ e with key:=.int .u8 q,val:=T q }).toList→(∃z,x.key=.int .u8 z∧x.val=T z):=by
    intro x hx
    obtain⟨k,hk'⟩:=List.mem_iff_getElem?.1 hx
    rw[Array.getElem?_toList,Array.getElem?_modify]at hk'
    by_cases hjk:j=k
    ·rw[if_pos hjk]at hk'
     rw[←hjk,hj]at hk'
     cases hk'
     exact⟨q,rfl,rfl⟩
    ·rw[if_neg hjk]at hk'
     exact hT x (List.mem_of_getElem? (by rw[Array.getElem?_toList];exact hk'))
   have hhas:∀z',(∃x,x∈es.toList∧x.key=.int .u8 z')→∃x,x∈(es.modify j fun e=>{ e with key:=.int .u8 q,val:=T q }).toList∧x.key=.int .u8 z':=by
    rintro z' ⟨x,hx,hxk⟩
    obtain⟨k,hk'⟩:=List.mem_iff_getElem?.1 hx
    rw[Array.getElem?_toList]at hk'
    by_cases hjk:j=k
    ·refine⟨{ e with key:=.int .u8 q,val:=T q },List.mem_of_getElem? (i:=k) (by rw[Array.getElem?_toList,Array.getElem?_modify,if_pos hjk,←hjk,hj];rfl),?_⟩
     rw[←hjk,hj]at hk'
     cases hk'
     rw[←hxk,hq]
    ·exact⟨x,List.mem_of_getElem? (i:=k) (by rw[Array.getElem?_toList,Array.getElem?_modify,if_neg hjk];exact hk'),hxk⟩
   refine⟨⟨_,_,hset _,hkeys⟩,⟨_,_,hset _,hhas q ⟨e,List.mem_of_getElem? (by simpa using h2),h3⟩⟩,?_⟩
   rintro z' ⟨es',clk',hb',hx⟩
   rw[hb]at hb'
   cases hb'
   exact⟨_,_,hset _,hhas z' hx⟩
theorem map_get{P:Program}{u:World}{B:Nat}{T:Int→Value}(mty kt et:TypeId)(hm:P.underlying mty=some (.map kt et))(hk:P.underlying kt=some (.int .u8))(h:MapOf u B T)(z:Int)(hz:HasKey u B z):
  (Instr.lookup mty (.map (some B)) (.int .u8 z) false).run P u=.ok (T z) u:=by
 obtain⟨es,clk,hb,hT⟩:=h
 obtain⟨es',clk',hb',x,hx,hxk⟩:=hz
 rw[hb]at hb'
 cases hb'
 have hK:MapKept.IsKey (.int .u8) (.int .u8 z):=by simp[MapKept.IsKey]
 have hks:∀x∈es.toList,MapKept.IsKey (.int .u8) x.key:=fun x hx=>by
  obtain⟨q,hq,_⟩:=hT x hx
  rw[hq];simp[MapKept.IsKey]
 have hc:∀e,(Instr.checkKey e 10000 kt (.int .u8 z)).run P u=.ok () u:=fun e=>MapKept.run_checkKey (k:=.int .u8 z) hk hK e 9999
 rcases MapKept.findNow_spec hK es.toList 0 hks with⟨_,h2⟩|⟨j,e,h1,h2,h3⟩
 ·exact absurd hxk (h2 x hx)
 ·obtain⟨q,hq,hv⟩:=hT e (List.mem_of_getElem? h2)
  obtain rfl:q=z:=by rw[hq]at h3;injection h3
  simp[Instr.lookup,run_underlying hm,MapKept.run_getObj_map hb,hc,MapKept.run_findKey hk h1,Result.andThen,hv]
theorem cell_set{u:World}{B:Nat}{o:Obj}{ad:Addr}{v:Value}(hb:∃es clk,u.heap[B]?=some (.map es clk))(h:u.cell? ad=some v):({ u with heap:=u.heap.setIfInBounds B o }:World).cell? ad=some v:=by
 obtain⟨es,clk,hb⟩:=hb
 have hne:ad.block≠B:=fun e=>by
  unfold World.cell? at h
  rw[e,hb]at h
  cases h
 have:=(MapKept.heap_set (o':=o) hb).2 ad.block hne
 unfold World.cell? at h ⊢
 rw[show({ u with heap:=u.heap.setIfInBounds B o }:World).heap=u.heap.setIfInBounds B o from rfl,this]
 exact h
theorem other_set{u:World}{B B':Nat}{o:Obj}(hb:∃es clk,u.heap[B]?=some (.map es clk))(hne:B'≠B):({ u with heap:=u.heap.setIfInBounds B o }:World).heap[B']?=u.heap[B']?:=by
 obtain⟨es,clk,hb⟩:=hb
 exact(MapKept.heap_set (o':=o) hb).2 B' hne
structure KInv (w:World) (R n:Nat) (T1 T2:Int→Value) (u:World) (g:Nat→Nat):Prop where
 inv:RInv w R n u
 lt:∀B,g B≠0→R<B∧B<u.heap.size
 one:∀B,g B=1→MapOf u B T1
 two:∀B,g B=2→MapOf u B T2
structure KG (R:Nat) (C:Array Value) (u:World) (g:Nat→Nat) (u':World) (g':Nat→Nat):Prop where
 cells:RG R C u u'
 kind:∀B,g B≠0→g' B=g B
 has:∀B z,g B≠0→HasKey u B z→HasKey u' B z
theorem KG.refl(R:Nat)(C:Array Value)(u:World)(g:Nat→Nat):KG R C u g u g:=⟨RG.refl _ _ _,fun _ _=>rfl,fun _ _ _ h=>h⟩
theorem KInv.ext{w u u':World}{R n:Nat}{T1 T2:Int→Value}{g:Nat→Nat}(C:Array Value)(h:KInv w R n T1 T2 u g)(hb:Below u.heap.size u u'):KInv w R n T1 T2 u' g∧KG R C u g u' g:=by
 have e:=h.inv.ext C hb
 have hh:∀B,g B≠0→u'.heap[B]?=u.heap[B]?:=fun B hB=>hb.block B (h.lt B hB).2
 refine⟨⟨e.1,fun B hB=>⟨(h.lt B hB).1,Nat.lt_of_lt_of_le (h.lt B hB).2 hb.size⟩,fun B hB=>?_,fun B hB=>?_⟩,⟨e.2,fun _ _=>rfl,fun B z hB hz=>?_⟩⟩
 ·have:=h.one B hB
  unfold MapOf at this ⊢
  rw[hh B (by omega)]
  exact this
 ·have:=h.two B hB
  unfold MapOf at this ⊢
  rw[hh B (by omega)]
  exact this
 ·unfold HasKey at hz ⊢
  rw[hh B hB]
  exact hz
theorem KInv.new{w u:World}{R n:Nat}{T1 T2:Int→Value}{g:Nat→Nat}(C:Array Value)(h:KInv w R n T1 T2 u g)(k:Nat):
  ∃g',KInv w R n T1 T2 (u.alloc (.map #[] 0)) g'∧KG R C u g (u.alloc (.map #[] 0)) g'∧g' u.heap.size=k:=by
 obtain⟨e1,e2⟩:=h.ext C (below_last (Below.refl _ u) (.map #[] 0))
 have hnew:MapOf (u.alloc (.map #[] 0)) u.heap.size T1∧MapOf (u.alloc (.map #[] 0)) u.heap.size T2:=⟨⟨#[],0,(MapKept.heap_alloc u _).1,by simp⟩,⟨#[],0,(MapKept.heap_alloc u _).1,by simp⟩⟩
 refine⟨fun B=>if B=u.heap.size then k else g B,⟨e1.inv,fun B hB=>?_,fun B hB=>?_,fun B hB=>?_⟩,⟨e2.cells,fun B hB=>?_,fun B z hB hz=>e2.has B z hB hz⟩,by simp⟩
 ·by_cases hs:B=u.heap.size
  ·exact⟨by rw[hs];exact h.inv.lt,by rw[hs];simp⟩
  ·simp only[if_neg hs]at hB
   exact e1.lt B hB
 ·by_cases hs:B=u.heap.size
  ·rw[hs];exact hnew.1
  ·simp only[if_neg hs]at hB
   exact e1.one B hB
 ·by_cases hs:B=u.heap.size
  ·rw[hs];exact hnew.2
  ·simp only[if_neg hs]at hB
   exact e1.two B hB
 ·have:=(h.lt B hB).2
  rw[if_neg (by omega)]
theorem KInv.put{P:Program}{w u:World}{R n:Nat}{T1 T2:Int→Value}{g:Nat→Nat}(C:Array Value)(h:KInv w R n T1 T2 u g)(mty kt et:TypeId)(hm:P.underlying mty=some (.map kt et))(hk:P.underlying kt=some (.int .u8))(B:Nat)(T:Int→Value)(hB:g B=1∧T=T1∨g B=2∧T=T2)(z:Int):
  ∃u',(Instr.mapUpdate mty (.map (some B)) (.int .u8 z) (T z)).run P u=.ok () u'∧KInv w R n T1 T2 u' g∧KG R C u g u' g∧HasKey u' B z:=by
 have hof:MapOf u B T:=by
  rcases hB with⟨h1,rfl⟩|⟨h1,rfl⟩
  ·exact h.one B h1
  ·exact h.two B h1
 have hB0:g B≠0:=by omega
 obtain⟨hRB,hBl⟩:=h.lt B hB0
 obtain⟨o,hrun,hmap,⟨es',clk',ho⟩,h1,h2,h3⟩:=map_put mty kt et hm hk hof z
 have hsz:({ u with heap:=u.heap.setIfInBounds B o }:World).heap.size=u.heap.size:=by simp
 have hoth:∀B',B'≠B→({ u with heap:=u.heap.setIfInBounds B o }:World).heap[B']?=u.heap[B']?:=fun B' hne=>other_set hmap hne
 have hkeep:∀B' T',B'≠B→MapOf u B' T'→MapOf { u with heap:=u.heap.setIfInBounds B o } B' T':=fun B' T' hne hq=>by
  unfold MapOf at hq ⊢
  rw[hoth B' hne]
  exact hq
 refine⟨_,hrun,⟨⟨⟨h.inv.below.os,h.inv.below.tape,h.inv.below.output,by rw[hsz];exact h.inv.below.size,fun k hk=>by rw[hoth k (by omega)];exact h.inv.below.block k hk⟩,by rw[hsz];exact h.inv.lt,fun i hi=>?_,fun i=>?_⟩,fun B' hB'=>by rw[hsz];exact h.lt B' hB',fun B' hB'=>?_,fun B' hB'=>?_⟩,⟨⟨fun ad v _ hc=>cell_set hmap hc,fun hf i v hi=>cell_set hmap (hf i v hi)⟩,fun _ _=>rfl,fun B' z' _ hz'=>?_⟩,h2⟩
 ·obtain⟨x,hx⟩:=Option.isSome_iff_exists.1 (h.inv.there i hi)
  rw[cell_set hmap hx]
  rfl
 ·have:=h.inv.froz i
  unfold World.frozen? at this ⊢
  rw[hoth R (by omega)]
  exact this
 ·by_cases hne:B'=B
  ·subst hne
   rcases hB with⟨_,rfl⟩|⟨hq,_⟩
   ·exact h1
   ·omega
  ·exact hkeep B' T1 hne (h.one B' hB')
 ·by_cases hne:B'=B
  ·subst hne
   rcases hB with⟨hq,_⟩|⟨_,rfl⟩
   ·omega
   ·exact h1
  ·exact hkeep B' T2 hne (h.two B' hB')
 ·by_cases hne:B'=B
  ·subst hne;exact h3 z' hz'
  ·unfold HasKey at hz' ⊢
   rw[hoth B' hne]
   exact hz'
theorem KInv.five{w u:World}{R:Nat}{T1 T2:Int→Value}{g:Nat→Nat}(h:KInv w R 5 T1 T2 u g)(a b c d e:Value):
  KInv w R 5 T1 T2 (((((u.setCell ⟨R,0,none⟩ a).setCell ⟨R,1,none⟩ b).setCell ⟨R,2,none⟩ c).setCell ⟨R,3,none⟩ d).setCell ⟨R,4,none⟩ e) g ∧
  KG R #[a,b,c,d,e] u g (((((u.setCell ⟨R,0,none⟩ a).setCell ⟨R,1,none⟩ b).setCell ⟨R,2,none⟩ c).setCell ⟨R,3,none⟩ d).setCell ⟨R,4,none⟩ e) g ∧
  Full R #[a,b,c,d,e] (((((u.setCell ⟨R,0,none⟩ a).setCell ⟨R,1,none⟩ b).setCell ⟨R,2,none⟩ c).setCell ⟨R,3,none⟩ d).setCell ⟨R,4,none⟩ e):=by
 obtain⟨f1,f2,f3⟩:=h.inv.five a b c d e
 have hoth:∀(x:World) (i:Nat) (v:Value) (B:Nat),B≠R→(x.setCell ⟨R,i,none⟩ v).heap[B]?=x.heap[B]?:=fun x i v B hB=>by
  unfold World.setCell
  simp only[Array.getElem?_modify]
  exact if_neg (fun e=>hB e.symm)
 have hall:∀B,B≠R→(((((u.setCell ⟨R,0,none⟩ a).setCell ⟨R,1,none⟩ b).setCell ⟨R,2,none⟩ c).setCell ⟨R,3,none⟩ d).setCell ⟨R,4,none⟩ e).heap[B]?=u.heap[B]?:=fun B hB=>by
  rw[hoth _ _ _ B hB,hoth _ _ _ B hB,hoth _ _ _ B hB,hoth _ _ _ B hB,hoth _ _ _ B hB]
 have hne:∀B,g B≠0→B≠R:=fun B hB=>by have:=(h.lt B hB).1;omega
 refine⟨⟨f1,fun B hB=>⟨(h.lt B hB).1,by simpa[World.setCell]using(h.lt B hB).2⟩,fun B hB=>?_,fun B hB=>?_⟩,⟨f2,fun _ _=>rfl,fun B z hB hz=>?_⟩,f3⟩
 ·have:=h.one B hB
  unfold MapOf at this ⊢
  rw[hall B (hne B (by omega))]
  exact this
 ·have:=h.two B hB
  unfold MapOf at this ⊢
  rw[hall B (hne B (by omega))]
  exact this
 ·unfold HasKey at hz ⊢
  rw[hall B (hne B hB)]
  exact hz
section
attribute [local go_sem] isSome_setCell
def sz8(z:Int):Value:=.int .i64 (if z=128 then 1 else 4)
def hw8(z:Int):Value:=.string (if z=131 then⟨#[69,98]⟩else⟨#[69,73]⟩)
def grpC(c reg:Int):Array Value:=#[.int .i64 (grpF alus reg),.int .i64 0,sz8 c,hw8 c,.int .i64 (c%8)]
def grpV(c reg:Int)(R:Nat):Nat→Value→Value→World→(Nat→Nat)→Prop
 |0,v,_,_,_=>v=.int .u8 c
 |1,v,_,_,_=>v=.int .i64 reg
 |2,v,_,_,_=>v=.int .i64 (grpF alus reg)
 |3,v,_,_,g=>∃B,v=.map (some B)∧g B=1
 |4,_,x,u,g=>∃B,x=.map (some B)∧g B=1∧HasKey u B 128
 |5,_,x,u,g=>∃B,x=.map (some B)∧g B=1∧HasKey u B 129
 |6,_,x,u,g=>∃B,x=.map (some B)∧g B=1∧HasKey u B 131
 |7,v,_,u,g=>∃B,v=.map (some B)∧g B=1∧HasKey u B c
 |8,v,_,_,_=>v=.int .u8 c
 |9,v,_,_,_=>v=sz8 c
 |10,v,_,_,g=>∃B,v=.map (some B)∧g B=2
 |11,_,x,u,g=>∃B,x=.map (some B)∧g B=2∧HasKey u B 128
 |12,_,x,u,g=>∃B,x=.map (some B)∧g B=2∧HasKey u B 129
 |13,_,x,u,g=>∃B,x=.map (some B)∧g B=2∧HasKey u B 131
 |14,v,_,u,g=>∃B,v=.map (some B)∧g B=2∧HasKey u B c
 |15,v,_,_,_=>v=.int .u8 c
 |16,v,_,_,_=>v=hw8 c
 |17,v,_,_,_=>v=.tuple #[.agg (grpC c reg),.bool (grpF alus reg != 0),.bool false]
 |18,v,_,_,_=>v=.agg (grpC c reg)
 |19,v,_,_,_=>v=.bool (grpF alus reg != 0)
 |20,v,_,_,_=>v=.bool false
 |21,_,_,u,_=>Full R (grpC c reg) u
 |22,v,_,_,_=>v=.bool (grpF alus reg != 0)
 |23,v,_,_,_=>v=.bool false
 |_,_,_,_,_=>True
theorem grpV_stays{c reg:Int}{R:Nat}(i:Nat)(v x:Value)(u:World)(g:Nat→Nat)(u':World)(g':Nat→Nat)(h:grpV c reg R i v x u g)(k:KG R (grpC c reg) u g u' g'):grpV c reg R i v x u' g':=by
 unfold grpV at h ⊢
 split at h
 all_goals first
  |exact h
  |exact k.cells.2 h
  |(obtain⟨B,h1,h2,h3⟩:=h;exact⟨B,h1,by rw[k.kind B (by omega)];exact h2,k.has B _ (by omega) h3⟩)
  |(obtain⟨B,h1,h2⟩:=h;exact⟨B,h1,by rw[k.kind B (by omega)];exact h2⟩)
def grpP(i:Nat):Nat:=if i=4∨i=5∨i=6 then 3 else if i=11∨i=12∨i=13 then 10 else i
def grpN(i:Nat):Bool:=i==4 || i==5 || i==6 || i==11 || i==12 || i==13 || i==21
set_option maxHeartbeats 4000000
theorem first_128y(reg:Int)(m3:Bool)(r0:0≤reg)(r1:reg<8)(w:World):Calls Tryz.prog 20 #[.int .u8 128,.int .i64 reg,.bool m3] w fun e w'=>e=.returned (fstL (firstF 128 reg m3))∧Below w.heap.size w w':=by
 have HX:=Lib.hid (show firstF 128 reg m3=isF 128 (grpF alus reg) 1 [69,73]by show byF 128 reg alus 1 [69,73]=_;unfold byF;rw[if_neg (by omega)])
 have HA:=Lib.hid (alu_any reg r0 r1)
 have HI:=Lib.hid (is_any 128 (grpF alus reg) 1 ⟨([69,73]:List UInt8).toArray⟩ (by decide) (by decide))
 have hd:decide (reg<0)=false:=decide_eq_false (by omega)
 go_enter Tryz.func20,Tryz.ntmps20
 go_upto_region 37 with(go_at_call 44;refine(size4_any _ (by first|decide|omega) (by first|decide|omega) _).mono ?_;rintro e w' ⟨rfl,rfl⟩)
 refine wp_region_mind (γ:=Nat→Nat) (by kernel_rfl) grpN grpP (by kernel_rfl) (fun _=>0) (KInv w w.heap.size 5 sz8 hw8) (KG w.heap.size (grpC 128 reg)) (grpV 128 reg w.heap.size) grpV_stays (KG.refl _ _) ?_ ?_ ?_
 ·exact⟨RInv.drawn ⟨below_last (Below.refl _ _) _,by simp,fun i hi=>by
   have h5:i=0∨i=1∨i=2∨i=3∨i=4:=by omega
   rcases h5 with rfl|rfl|rfl|rfl|rfl<;>simp,fun i=>by simp⟩,fun B hB=>absurd rfl hB,(fun B hB=>by cases hB),(fun B hB=>by cases hB)⟩
 ·intro i o b u g ho hinv hsz hbase hdep
  have hi:i<24:=(Array.getElem?_eq_some_iff.1 ho).1
  have b0:b.tmps.getD 0 undef=.int .u8 128:=hbase 0 (by kernel_rfl)
  have b1:b.tmps.getD 1 undef=.int .i64 reg:=hbase 1 (by kernel_rfl)
  have b6:b.tmps.getD 6 undef=.pointer (some ⟨w.heap.size,0,none⟩):=hbase 6 (by kernel_rfl)
  clear hbase hsz
  have h22:i=0∨i=1∨i=2∨i=3∨i=4∨i=5∨i=6∨i=7∨i=8∨i=9∨i=10∨i=11∨i=12∨i=13∨i=14∨i=15∨i=16∨i=17∨i=18∨i=19∨i=20∨i=21∨i=22∨i=23:=by omega
  rcases h22 with rfl|rfl|rfl|rfl|rfl|rfl|rfl|rfl|rfl|rfl|rfl|rfl|rfl|rfl|rfl|rfl|rfl|rfl|rfl|rfl|rfl|rfl|rfl|rfl
  ·cases ho
   exact wp_val (by simp[execOp,Act.eval,b0]<;>rfl) ⟨_,g,rfl,hinv,KG.refl _ _ _ _,rfl⟩
  ·cases ho
   exact wp_val (by simp[execOp,Act.eval,b1]<;>rfl) ⟨_,g,rfl,hinv,KG.refl _ _ _ _,rfl⟩
  ·cases ho
   have d1:b.tmps.getD 192 undef=.int .i64 reg:=hdep 1 (by kernel_rfl)
   refine wp_call (by simp[execOp,Act.eval,d1,go_sem]<;>rfl) ((HA.out u).mono ?_)
   rintro e u' ⟨rfl,hb⟩
   exact⟨_,rfl,_,g,rfl,(hinv.ext (grpC 128 reg) hb).1,(hinv.ext (grpC 128 reg) hb).2,rfl⟩
  ·cases ho
   obtain⟨g',m1,m2,m3'⟩:=hinv.new (grpC 128 reg) 1
   exact wp_val (by simp[execOp,run_makeMap,Result.andThen]<;>rfl) ⟨_,g',rfl,m1,m2,_,rfl,m3'⟩
  ·cases ho
   obtain⟨B,e1,e2⟩:=hdep 3 (by kernel_rfl)
   have d3:b.tmps.getD 194 undef=.map (some B):=e1
   obtain⟨u',m1,m2,m3',m4⟩:=hinv.put (grpC 128 reg) 100 5 3 Tryz.underlying100 Tryz.underlying5 B sz8 (.inl ⟨e2,rfl⟩) 128
   rw[show sz8 128=.int .i64 1 by simp[sz8]]at m1
   exact wp_skip (by simp[execOp,Act.eval,d3,m1,Result.andThen]<;>rfl) ⟨_,g,rfl,m2,m3',B,e1,e2,m4⟩
  ·cases ho
   obtain⟨B,e1,e2⟩:=hdep 3 (by kernel_rfl)
   have d3:b.tmps.getD 194 undef=.map (some B):=e1
   obtain⟨u',m1,m2,m3',m4⟩:=hinv.put (grpC 128 reg) 100 5 3 Tryz.underlying100 Tryz.underlying5 B sz8 (.inl ⟨e2,rfl⟩) 129
   rw[show sz8 129=.int .i64 4 by simp[sz8]]at m1
   exact wp_skip (by simp[execOp,Act.eval,d3,m1,Result.andThen]<;>rfl) ⟨_,g,rfl,m2,m3',B,e1,e2,m4⟩
  ·cases ho
   obtain⟨B,e1,e2⟩:=hdep 3 (by kernel_rfl)
   have d3:b.tmps.getD 194 undef=.map (some B):=e1
   obtain⟨u',m1,m2,m3',m4⟩:=hinv.put (grpC 128 reg) 100 5 3 Tryz.underlying100 Tryz.underlying5 B sz8 (.inl ⟨e2,rfl⟩) 131
   rw[show sz8 131=.int .i64 4 by simp[sz8]]at m1
   exact wp_skip (by simp[execOp,Act.eval,d3,m1,Result.andThen]<;>rfl) ⟨_,g,rfl,m2,m3',B,e1,e2,m4⟩
  ·cases ho
   obtain⟨B,e1,e2,e3⟩:=hdep 4 (by kernel_rfl)
   have d3:b.tmps.getD 194 undef=.map (some B):=e1
   exact wp_val (by simp[execOp,Act.eval,d3]<;>rfl) ⟨_,g,rfl,hinv,KG.refl _ _ _ _,B,rfl,e2,e3⟩
  ·cases ho
   exact wp_val (by simp[execOp,Act.eval,b0]<;>rfl) ⟨_,g,rfl,hinv,KG.refl _ _ _ _,rfl⟩
  ·cases ho
   obtain⟨B,e1,e2,e3⟩:=hdep 7 (by kernel_rfl)
   have d7:b.tmps.getD 195 undef=.map (some B):=e1
   have d8:b.tmps.getD 196 undef=.int .u8 128:=hdep 8 (by kernel_rfl)
   have m1:=map_get 100 5 3 Tryz.underlying100 Tryz.underlying5 (hinv.one B e2) 128 e3
   exact wp_val (by simp[execOp,Act.eval,d7,d8,m1,Result.andThen]<;>rfl) ⟨_,g,rfl,hinv,KG.refl _ _ _ _,rfl⟩
  ·cases ho
   obtain⟨g',m1,m2,m3'⟩:=hinv.new (grpC 128 reg) 2
   exact wp_val (by simp[execOp,run_makeMap,Result.andThen]<;>rfl) ⟨_,g',rfl,m1,m2,_,rfl,m3'⟩
  ·cases ho
   obtain⟨B,e1,e2⟩:=hdep 10 (by kernel_rfl)
   have d10:b.tmps.getD 198 undef=.map (some B):=e1
   obtain⟨u',m1,m2,m3',m4⟩:=hinv.put (grpC 128 reg) 99 5 9 Tryz.underlying99 Tryz.underlying5 B hw8 (.inr ⟨e2,rfl⟩) 128
   rw[show hw8 128=.string ⟨#[69,73]⟩by simp[hw8]]at m1
   exact wp_skip (by simp[execOp,Act.eval,d10,m1,Result.andThen]<;>rfl) ⟨_,g,rfl,m2,m3',B,e1,e2,m4⟩
  ·cases ho
   obtain⟨B,e1,e2⟩:=hdep 10 (by kernel_rfl)
   have d10:b.tmps.getD 198 undef=.map (some B):=e1
   obtain⟨u',m1,m2,m3',m4⟩:=hinv.put (grpC 128 reg) 99 5 9 Tryz.underlying99 Tryz.underlying5 B hw8 (.inr ⟨e2,rfl⟩) 129
   rw[show hw8 129=.string ⟨#[69,73]⟩by simp[hw8]]at m1
   exact wp_skip (by simp[execOp,Act.eval,d10,m1,Result.andThen]<;>rfl) ⟨_,g,rfl,m2,m3',B,e1,e2,m4⟩
  ·cases ho
   obtain⟨B,e1,e2⟩:=hdep 10 (by kernel_rfl)
   have d10:b.tmps.getD 198 undef=.map (some B):=e1
   obtain⟨u',m1,m2,m3',m4⟩:=hinv.put (grpC 128 reg) 99 5 9 Tryz.underlying99 Tryz.underlying5 B hw8 (.inr ⟨e2,rfl⟩) 131
   rw[show hw8 131=.string ⟨#[69,98]⟩by simp[hw8]]at m1
   exact wp_skip (by simp[execOp,Act.eval,d10,m1,Result.andThen]<;>rfl) ⟨_,g,rfl,m2,m3',B,e1,e2,m4⟩
  ·cases ho
   obtain⟨B,e1,e2,e3⟩:=hdep 11 (by kernel_rfl)
   have d10:b.tmps.getD 198 undef=.map (some B):=e1
   exact wp_val (by simp[execOp,Act.eval,d10]<;>rfl) ⟨_,g,rfl,hinv,KG.refl _ _ _ _,B,rfl,e2,e3⟩
  ·cases ho
   exact wp_val (by simp[execOp,Act.eval,b0]<;>rfl) ⟨_,g,rfl,hinv,KG.refl _ _ _ _,rfl⟩
  ·cases ho
   obtain⟨B,e1,e2,e3⟩:=hdep 14 (by kernel_rfl)
   have d14:b.tmps.getD 199 undef=.map (some B):=e1
   have d15:b.tmps.getD 200 undef=.int .u8 128:=hdep 15 (by kernel_rfl)
   have m1:=map_get 99 5 9 Tryz.underlying99 Tryz.underlying5 (hinv.two B e2) 128 e3
   exact wp_val (by simp[execOp,Act.eval,d14,d15,m1,Result.andThen]<;>rfl) ⟨_,g,rfl,hinv,KG.refl _ _ _ _,rfl⟩
  ·cases ho
   have d0:b.tmps.getD 191 undef=.int .u8 128:=hdep 0 (by kernel_rfl)
   have d2:b.tmps.getD 193 undef=.int .i64 (grpF alus reg):=hdep 2 (by kernel_rfl)
   have d9:b.tmps.getD 197 undef=sz8 128:=hdep 9 (by kernel_rfl)
   have d16:b.tmps.getD 201 undef=hw8 128:=hdep 16 (by kernel_rfl)
   refine wp_call (by simp[execOp,Act.eval,d0,d2,d9,d16,sz8,hw8,go_sem]<;>rfl) ((HI.out u).mono ?_)
   rintro e u' ⟨rfl,hb⟩
   exact⟨_,rfl,_,g,rfl,(hinv.ext (grpC 128 reg) hb).1,(hinv.ext (grpC 128 reg) hb).2,rfl⟩
  ·cases ho
   have d17:b.tmps.getD 202 undef=.tuple #[.agg (grpC 128 reg),.bool (grpF alus reg != 0),.bool false]:=hdep 17 (by kernel_rfl)
   exact wp_val (by simp[execOp,Act.eval,d17,go_sem]<;>rfl) ⟨_,g,rfl,hinv,KG.refl _ _ _ _,rfl⟩
  ·cases ho
   have d17:b.tmps.getD 202 undef=.tuple #[.agg (grpC 128 reg),.bool (grpF alus reg != 0),.bool false]:=hdep 17 (by kernel_rfl)
   exact wp_val (by simp[execOp,Act.eval,d17,go_sem]<;>rfl) ⟨_,g,rfl,hinv,KG.refl _ _ _ _,rfl⟩
  ·cases ho
   have d17:b.tmps.getD 202 undef=.tuple #[.agg (grpC 128 reg),.bool (grpF alus reg != 0),.bool false]:=hdep 17 (by kernel_rfl)
   exact wp_val (by simp[execOp,Act.eval,d17,go_sem]<;>rfl) ⟨_,g,rfl,hinv,KG.refl _ _ _ _,rfl⟩
  ·cases ho
   have d18:b.tmps.getD 203 undef=.agg (grpC 128 reg):=hdep 18 (by kernel_rfl)
   obtain⟨x0,e0⟩:=Option.isSome_iff_exists.1 (hinv.inv.there 0 (by decide))
   have z0:=hinv.inv.froz 0
   obtain⟨x1,e1⟩:=Option.isSome_iff_exists.1 (hinv.inv.there 1 (by decide))
   have z1:=hinv.inv.froz 1
   obtain⟨x2,e2⟩:=Option.isSome_iff_exists.1 (hinv.inv.there 2 (by decide))
   have z2:=hinv.inv.froz 2
   obtain⟨x3,e3⟩:=Option.isSome_iff_exists.1 (hinv.inv.there 3 (by decide))
   have z3:=hinv.inv.froz 3
   obtain⟨x4,e4⟩:=Option.isSome_iff_exists.1 (hinv.inv.there 4 (by decide))
   have z4:=hinv.inv.froz 4
   obtain⟨f1,f2,f3⟩:=hinv.five (.int .i64 (grpF alus reg)) (.int .i64 0) (sz8 128) (hw8 128) (.int .i64 (128%8))
   exact wp_skip (by simp[execOp,Act.eval,d18,b6,grpC,sz8,hw8,go_sem,e0,e1,e2,e3,e4,z0,z1,z2,z3,z4]<;>rfl) ⟨_,g,rfl,f1,f2,f3⟩
  ·cases ho
   have d19:b.tmps.getD 204 undef=.bool (grpF alus reg != 0):=hdep 19 (by kernel_rfl)
   exact wp_val (by simp[execOp,Act.eval,d19]<;>rfl) ⟨_,g,rfl,hinv,KG.refl _ _ _ _,rfl⟩
  ·cases ho
   have d20:b.tmps.getD 205 undef=.bool false:=hdep 20 (by kernel_rfl)
   exact wp_val (by simp[execOp,Act.eval,d20]<;>rfl) ⟨_,g,rfl,hinv,KG.refl _ _ _ _,rfl⟩
 ·intro f u g hinv hV
  have q20:f 22=.bool (grpF alus reg != 0):=hV 22 (by decide)
  have q21:f 23=.bool false:=hV 23 (by decide)
  have qF:=hV 21 (by decide)
  generalize hb:laid _ f _ _=b
  have b6:b.tmps.getD 6 undef=.pointer (some ⟨w.heap.size,0,none⟩):=by rw[←hb];kernel_rfl
  have b7:b.tmps.getD 7 undef=.bool (grpF alus reg != 0):=by rw[←hb,←q20];kernel_rfl
  have b8:b.tmps.getD 8 undef=.bool false:=by rw[←hb,←q21];kernel_rfl
  have bd:b.defers=[]:=by rw[←hb];kernel_rfl
  clear hb
  rw[Array.getD_eq_getD_getElem?]at b6 b7 b8
  go_wp2_with fail
  have w0:u.cell? ⟨w.heap.size,0,none⟩=some (Value.int .i64 (grpF alus reg)):=qF 0 _ rfl
  have w1:u.cell? ⟨w.heap.size,1,none⟩=some (Value.int .i64 0):=qF 1 _ rfl
  have w2:u.cell? ⟨w.heap.size,2,none⟩=some (Value.int .i64 1):=qF 2 _ rfl
  have w3:u.cell? ⟨w.heap.size,3,none⟩=some (Value.string ⟨([69,73]:List UInt8).toArray⟩):=qF 3 _ rfl
  have w4:u.cell? ⟨w.heap.size,4,none⟩=some (Value.int .i64 0):=qF 4 _ rfl
  refine bodyPost_ret (v:=.tuple #[.agg #[.int .i64 (grpF alus reg),.int .i64 0,.int .i64 1,.string ⟨([69,73]:List UInt8).toArray⟩,.int .i64 0],.bool (grpF alus reg != 0),.bool false]) (by simp[results,Tryz.results20,go_sem,b6,b7,b8,w0,w1,w2,w3,w4]) bd ⟨by rw[HX.out];rfl,hinv.inv.below⟩
theorem first_129y(reg:Int)(m3:Bool)(r0:0≤reg)(r1:reg<8)(w:World):Calls Tryz.prog 20 #[.int .u8 129,.int .i64 reg,.bool m3] w fun e w'=>e=.returned (fstL (firstF 129 reg m3))∧Below w.heap.size w w':=by
 have HX:=Lib.hid (show firstF 129 reg m3=isF 129 (grpF alus reg) 4 [69,73]by show byF 129 reg alus 4 [69,73]=_;unfold byF;rw[if_neg (by omega)])
 have HA:=Lib.hid (alu_any reg r0 r1)
 have HI:=Lib.hid (is_any 129 (grpF alus reg) 4 ⟨([69,73]:List UInt8).toArray⟩ (by decide) (by decide))
 have hd:decide (reg<0)=false:=decide_eq_false (by omega)
 go_enter Tryz.func20,Tryz.ntmps20
 go_upto_region 37 with(go_at_call 44;refine(size4_any _ (by first|decide|omega) (by first|decide|omega) _).mono ?_;rintro e w' ⟨rfl,rfl⟩)
 refine wp_region_mind (γ:=Nat→Nat) (by kernel_rfl) grpN grpP (by kernel_rfl) (fun _=>0) (KInv w w.heap.size 5 sz8 hw8) (KG w.heap.size (grpC 129 reg)) (grpV 129 reg w.heap.size) grpV_stays (KG.refl _ _) ?_ ?_ ?_
 ·exact⟨RInv.drawn ⟨below_last (Below.refl _ _) _,by simp,fun i hi=>by
   have h5:i=0∨i=1∨i=2∨i=3∨i=4:=by omega
   rcases h5 with rfl|rfl|rfl|rfl|rfl<;>simp,fun i=>by simp⟩,fun B hB=>absurd rfl hB,(fun B hB=>by cases hB),(fun B hB=>by cases hB)⟩
 ·intro i o b u g ho hinv hsz hbase hdep
  have hi:i<24:=(Array.getElem?_eq_some_iff.1 ho).1
  have b0:b.tmps.getD 0 undef=.int .u8 129:=hbase 0 (by kernel_rfl)
  have b1:b.tmps.getD 1 undef=.int .i64 reg:=hbase 1 (by kernel_rfl)
  have b6:b.tmps.getD 6 undef=.pointer (some ⟨w.heap.size,0,none⟩):=hbase 6 (by kernel_rfl)
  clear hbase hsz
  have h22:i=0∨i=1∨i=2∨i=3∨i=4∨i=5∨i=6∨i=7∨i=8∨i=9∨i=10∨i=11∨i=12∨i=13∨i=14∨i=15∨i=16∨i=17∨i=18∨i=19∨i=20∨i=21∨i=22∨i=23:=by omega
  rcases h22 with rfl|rfl|rfl|rfl|rfl|rfl|rfl|rfl|rfl|rfl|rfl|rfl|rfl|rfl|rfl|rfl|rfl|rfl|rfl|rfl|rfl|rfl|rfl|rfl
  ·cases ho
   exact wp_val (by simp[execOp,Act.eval,b0]<;>rfl) ⟨_,g,rfl,hinv,KG.refl _ _ _ _,rfl⟩
  ·cases ho
   exact wp_val (by simp[execOp,Act.eval,b1]<;>rfl) ⟨_,g,rfl,hinv,KG.refl _ _ _ _,rfl⟩
  ·cases ho
   have d1:b.tmps.getD 192 undef=.int .i64 reg:=hdep 1 (by kernel_rfl)
   refine wp_call (by simp[execOp,Act.eval,d1,go_sem]<;>rfl) ((HA.out u).mono ?_)
   rintro e u' ⟨rfl,hb⟩
   exact⟨_,rfl,_,g,rfl,(hinv.ext (grpC 129 reg) hb).1,(hinv.ext (grpC 129 reg) hb).2,rfl⟩
  ·cases ho
   obtain⟨g',m1,m2,m3'⟩:=hinv.new (grpC 129 reg) 1
   exact wp_val (by simp[execOp,run_makeMap,Result.andThen]<;>rfl) ⟨_,g',rfl,m1,m2,_,rfl,m3'⟩
  ·cases ho
   obtain⟨B,e1,e2⟩:=hdep 3 (by kernel_rfl)
   have d3:b.tmps.getD 194 undef=.map (some B):=e1
   obtain⟨u',m1,m2,m3',m4⟩:=hinv.put (grpC 129 reg) 100 5 3 Tryz.underlying100 Tryz.underlying5 B sz8 (.inl ⟨e2,rfl⟩) 128
   rw[show sz8 128=.int .i64 1 by simp[sz8]]at m1
   exact wp_skip (by simp[execOp,Act.eval,d3,m1,Result.andThen]<;>rfl) ⟨_,g,rfl,m2,m3',B,e1,e2,m4⟩
  ·cases ho
   obtain⟨B,e1,e2⟩:=hdep 3 (by kernel_rfl)
   have d3:b.tmps.getD 194 undef=.map (some B):=e1
   obtain⟨u',m1,m2,m3',m4⟩:=hinv.put (grpC 129 reg) 100 5 3 Tryz.underlying100 Tryz.underlying5 B sz8 (.inl ⟨e2,rfl⟩) 129
   rw[show sz8 129=.int .i64 4 by simp[sz8]]at m1
   exact wp_skip (by simp[execOp,Act.eval,d3,m1,Result.andThen]<;>rfl) ⟨_,g,rfl,m2,m3',B,e1,e2,m4⟩
  ·cases ho
   obtain⟨B,e1,e2⟩:=hdep 3 (by kernel_rfl)
   have d3:b.tmps.getD 194 undef=.map (some B):=e1
   obtain⟨u',m1,m2,m3',m4⟩:=hinv.put (grpC 129 reg) 100 5 3 Tryz.underlying100 Tryz.underlying5 B sz8 (.inl ⟨e2,rfl⟩) 131
   rw[show sz8 131=.int .i64 4 by simp[sz8]]at m1
   exact wp_skip (by simp[execOp,Act.eval,d3,m1,Result.andThen]<;>rfl) ⟨_,g,rfl,m2,m3',B,e1,e2,m4⟩
  ·cases ho
   obtain⟨B,e1,e2,e3⟩:=hdep 5 (by kernel_rfl)
   have d3:b.tmps.getD 194 undef=.map (some B):=e1
   exact wp_val (by simp[execOp,Act.eval,d3]<;>rfl) ⟨_,g,rfl,hinv,KG.refl _ _ _ _,B,rfl,e2,e3⟩
  ·cases ho
   exact wp_val (by simp[execOp,Act.eval,b0]<;>rfl) ⟨_,g,rfl,hinv,KG.refl _ _ _ _,rfl⟩
  ·cases ho
   obtain⟨B,e1,e2,e3⟩:=hdep 7 (by kernel_rfl)
   have d7:b.tmps.getD 195 undef=.map (some B):=e1
   have d8:b.tmps.getD 196 undef=.int .u8 129:=hdep 8 (by kernel_rfl)
   have m1:=map_get 100 5 3 Tryz.underlying100 Tryz.underlying5 (hinv.one B e2) 129 e3
   exact wp_val (by simp[execOp,Act.eval,d7,d8,m1,Result.andThen]<;>rfl) ⟨_,g,rfl,hinv,KG.refl _ _ _ _,rfl⟩
  ·cases ho
   obtain⟨g',m1,m2,m3'⟩:=hinv.new (grpC 129 reg) 2
   exact wp_val (by simp[execOp,run_makeMap,Result.andThen]<;>rfl) ⟨_,g',rfl,m1,m2,_,rfl,m3'⟩
  ·cases ho
   obtain⟨B,e1,e2⟩:=hdep 10 (by kernel_rfl)
   have d10:b.tmps.getD 198 undef=.map (some B):=e1
   obtain⟨u',m1,m2,m3',m4⟩:=hinv.put (grpC 129 reg) 99 5 9 Tryz.underlying99 Tryz.underlying5 B hw8 (.inr ⟨e2,rfl⟩) 128
   rw[show hw8 128=.string ⟨#[69,73]⟩by simp[hw8]]at m1
   exact wp_skip (by simp[execOp,Act.eval,d10,m1,Result.andThen]<;>rfl) ⟨_,g,rfl,m2,m3',B,e1,e2,m4⟩
  ·cases ho
   obtain⟨B,e1,e2⟩:=hdep 10 (by kernel_rfl)
   have d10:b.tmps.getD 198 undef=.map (some B):=e1
   obtain⟨u',m1,m2,m3',m4⟩:=hinv.put (grpC 129 reg) 99 5 9 Tryz.underlying99 Tryz.underlying5 B hw8 (.inr ⟨e2,rfl⟩) 129
   rw[show hw8 129=.string ⟨#[69,73]⟩by simp[hw8]]at m1
   exact wp_skip (by simp[execOp,Act.eval,d10,m1,Result.andThen]<;>rfl) ⟨_,g,rfl,m2,m3',B,e1,e2,m4⟩
  ·cases ho
   obtain⟨B,e1,e2⟩:=hdep 10 (by kernel_rfl)
   have d10:b.tmps.getD 198 undef=.map (some B):=e1
   obtain⟨u',m1,m2,m3',m4⟩:=hinv.put (grpC 129 reg) 99 5 9 Tryz.underlying99 Tryz.underlying5 B hw8 (.inr ⟨e2,rfl⟩) 131
   rw[show hw8 131=.string ⟨#[69,98]⟩by simp[hw8]]at m1
   exact wp_skip (by simp[execOp,Act.eval,d10,m1,Result.andThen]<;>rfl) ⟨_,g,rfl,m2,m3',B,e1,e2,m4⟩
  ·cases ho
   obtain⟨B,e1,e2,e3⟩:=hdep 12 (by kernel_rfl)
   have d10:b.tmps.getD 198 undef=.map (some B):=e1
   exact wp_val (by simp[execOp,Act.eval,d10]<;>rfl) ⟨_,g,rfl,hinv,KG.refl _ _ _ _,B,rfl,e2,e3⟩
  ·cases ho
   exact wp_val (by simp[execOp,Act.eval,b0]<;>rfl) ⟨_,g,rfl,hinv,KG.refl _ _ _ _,rfl⟩
  ·cases ho
   obtain⟨B,e1,e2,e3⟩:=hdep 14 (by kernel_rfl)
   have d14:b.tmps.getD 199 undef=.map (some B):=e1
   have d15:b.tmps.getD 200 undef=.int .u8 129:=hdep 15 (by kernel_rfl)
   have m1:=map_get 99 5 9 Tryz.underlying99 Tryz.underlying5 (hinv.two B e2) 129 e3
   exact wp_val (by simp[execOp,Act.eval,d14,d15,m1,Result.andThen]<;>rfl) ⟨_,g,rfl,hinv,KG.refl _ _ _ _,rfl⟩
  ·cases ho
   have d0:b.tmps.getD 191 undef=.int .u8 129:=hdep 0 (by kernel_rfl)
   have d2:b.tmps.getD 193 undef=.int .i64 (grpF alus reg):=hdep 2 (by kernel_rfl)
   have d9:b.tmps.getD 197 undef=sz8 129:=hdep 9 (by kernel_rfl)
   have d16:b.tmps.getD 201 undef=hw8 129:=hdep 16 (by kernel_rfl)
   refine wp_call (by simp[execOp,Act.eval,d0,d2,d9,d16,sz8,hw8,go_sem]<;>rfl) ((HI.out u).mono ?_)
   rintro e u' ⟨rfl,hb⟩
   exact⟨_,rfl,_,g,rfl,(hinv.ext (grpC 129 reg) hb).1,(hinv.ext (grpC 129 reg) hb).2,rfl⟩
  ·cases ho
   have d17:b.tmps.getD 202 undef=.tuple #[.agg (grpC 129 reg),.bool (grpF alus reg != 0),.bool false]:=hdep 17 (by kernel_rfl)
   exact wp_val (by simp[execOp,Act.eval,d17,go_sem]<;>rfl) ⟨_,g,rfl,hinv,KG.refl _ _ _ _,rfl⟩
  ·cases ho
   have d17:b.tmps.getD 202 undef=.tuple #[.agg (grpC 129 reg),.bool (grpF alus reg != 0),.bool false]:=hdep 17 (by kernel_rfl)
   exact wp_val (by simp[execOp,Act.eval,d17,go_sem]<;>rfl) ⟨_,g,rfl,hinv,KG.refl _ _ _ _,rfl⟩
  ·cases ho
   have d17:b.tmps.getD 202 undef=.tuple #[.agg (grpC 129 reg),.bool (grpF alus reg != 0),.bool false]:=hdep 17 (by kernel_rfl)
   exact wp_val (by simp[execOp,Act.eval,d17,go_sem]<;>rfl) ⟨_,g,rfl,hinv,KG.refl _ _ _ _,rfl⟩
  ·cases ho
   have d18:b.tmps.getD 203 undef=.agg (grpC 129 reg):=hdep 18 (by kernel_rfl)
   obtain⟨x0,e0⟩:=Option.isSome_iff_exists.1 (hinv.inv.there 0 (by decide))
   have z0:=hinv.inv.froz 0
   obtain⟨x1,e1⟩:=Option.isSome_iff_exists.1 (hinv.inv.there 1 (by decide))
   have z1:=hinv.inv.froz 1
   obtain⟨x2,e2⟩:=Option.isSome_iff_exists.1 (hinv.inv.there 2 (by decide))
   have z2:=hinv.inv.froz 2
   obtain⟨x3,e3⟩:=Option.isSome_iff_exists.1 (hinv.inv.there 3 (by decide))
   have z3:=hinv.inv.froz 3
   obtain⟨x4,e4⟩:=Option.isSome_iff_exists.1 (hinv.inv.there 4 (by decide))
   have z4:=hinv.inv.froz 4
   obtain⟨f1,f2,f3⟩:=hinv.five (.int .i64 (grpF alus reg)) (.int .i64 0) (sz8 129) (hw8 129) (.int .i64 (129%8))
   exact wp_skip (by simp[execOp,Act.eval,d18,b6,grpC,sz8,hw8,go_sem,e0,e1,e2,e3,e4,z0,z1,z2,z3,z4]<;>rfl) ⟨_,g,rfl,f1,f2,f3⟩
  ·cases ho
   have d19:b.tmps.getD 204 undef=.bool (grpF alus reg != 0):=hdep 19 (by kernel_rfl)
   exact wp_val (by simp[execOp,Act.eval,d19]<;>rfl) ⟨_,g,rfl,hinv,KG.refl _ _ _ _,rfl⟩
  ·cases ho
   have d20:b.tmps.getD 205 undef=.bool false:=hdep 20 (by kernel_rfl)
   exact wp_val (by simp[execOp,Act.eval,d20]<;>rfl) ⟨_,g,rfl,hinv,KG.refl _ _ _ _,rfl⟩
 ·intro f u g hinv hV
  have q20:f 22=.bool (grpF alus reg != 0):=hV 22 (by decide)
  have q21:f 23=.bool false:=hV 23 (by decide)
  have qF:=hV 21 (by decide)
  generalize hb:laid _ f _ _=b
  have b6:b.tmps.getD 6 undef=.pointer (some ⟨w.heap.size,0,none⟩):=by rw[←hb];kernel_rfl
  have b7:b.tmps.getD 7 undef=.bool (grpF alus reg != 0):=by rw[←hb,←q20];kernel_rfl
  have b8:b.tmps.getD 8 undef=.bool false:=by rw[←hb,←q21];kernel_rfl
  have bd:b.defers=[]:=by rw[←hb];kernel_rfl
  clear hb
  rw[Array.getD_eq_getD_getElem?]at b6 b7 b8
  go_wp2_with fail
  have w0:u.cell? ⟨w.heap.size,0,none⟩=some (Value.int .i64 (grpF alus reg)):=qF 0 _ rfl
  have w1:u.cell? ⟨w.heap.size,1,none⟩=some (Value.int .i64 0):=qF 1 _ rfl
  have w2:u.cell? ⟨w.heap.size,2,none⟩=some (Value.int .i64 4):=qF 2 _ rfl
  have w3:u.cell? ⟨w.heap.size,3,none⟩=some (Value.string ⟨([69,73]:List UInt8).toArray⟩):=qF 3 _ rfl
  have w4:u.cell? ⟨w.heap.size,4,none⟩=some (Value.int .i64 1):=qF 4 _ rfl
  refine bodyPost_ret (v:=.tuple #[.agg #[.int .i64 (grpF alus reg),.int .i64 0,.int .i64 4,.string ⟨([69,73]:List UInt8).toArray⟩,.int .i64 1],.bool (grpF alus reg != 0),.bool false]) (by simp[results,Tryz.results20,go_sem,b6,b7,b8,w0,w1,w2,w3,w4]) bd ⟨by rw[HX.out];rfl,hinv.inv.below⟩
theorem first_131y(reg:Int)(m3:Bool)(r0:0≤reg)(r1:reg<8)(w:World):Calls Tryz.prog 20 #[.int .u8 131,.int .i64 reg,.bool m3] w fun e w'=>e=.returned (fstL (firstF 131 reg m3))∧Below w.heap.size w w':=by
 have HX:=Lib.hid (show firstF 131 reg m3=isF 131 (grpF alus reg) 4 [69,98]by show byF 131 reg alus 4 [69,98]=_;unfold byF;rw[if_neg (by omega)])
 have HA:=Lib.hid (alu_any reg r0 r1)
 have HI:=Lib.hid (is_any 131 (grpF alus reg) 4 ⟨([69,98]:List UInt8).toArray⟩ (by decide) (by decide))
 have hd:decide (reg<0)=false:=decide_eq_false (by omega)
 go_enter Tryz.func20,Tryz.ntmps20
 go_upto_region 37 with(go_at_call 44;refine(size4_any _ (by first|decide|omega) (by first|decide|omega) _).mono ?_;rintro e w' ⟨rfl,rfl⟩)
 refine wp_region_mind (γ:=Nat→Nat) (by kernel_rfl) grpN grpP (by kernel_rfl) (fun _=>0) (KInv w w.heap.size 5 sz8 hw8) (KG w.heap.size (grpC 131 reg)) (grpV 131 reg w.heap.size) grpV_stays (KG.refl _ _) ?_ ?_ ?_
 ·exact⟨RInv.drawn ⟨below_last (Below.refl _ _) _,by simp,fun i hi=>by
   have h5:i=0∨i=1∨i=2∨i=3∨i=4:=by omega
   rcases h5 with rfl|rfl|rfl|rfl|rfl<;>simp,fun i=>by simp⟩,fun B hB=>absurd rfl hB,(fun B hB=>by cases hB),(fun B hB=>by cases hB)⟩
 ·intro i o b u g ho hinv hsz hbase hdep
  have hi:i<24:=(Array.getElem?_eq_some_iff.1 ho).1
  have b0:b.tmps.getD 0 undef=.int .u8 131:=hbase 0 (by kernel_rfl)
  have b1:b.tmps.getD 1 undef=.int .i64 reg:=hbase 1 (by kernel_rfl)
  have b6:b.tmps.getD 6 undef=.pointer (some ⟨w.heap.size,0,none⟩):=hbase 6 (by kernel_rfl)
  clear hbase hsz
  have h22:i=0∨i=1∨i=2∨i=3∨i=4∨i=5∨i=6∨i=7∨i=8∨i=9∨i=10∨i=11∨i=12∨i=13∨i=14∨i=15∨i=16∨i=17∨i=18∨i=19∨i=20∨i=21∨i=22∨i=23:=by omega
  rcases h22 with rfl|rfl|rfl|rfl|rfl|rfl|rfl|rfl|rfl|rfl|rfl|rfl|rfl|rfl|rfl|rfl|rfl|rfl|rfl|rfl|rfl|rfl|rfl|rfl
  ·cases ho
   exact wp_val (by simp[execOp,Act.eval,b0]<;>rfl) ⟨_,g,rfl,hinv,KG.refl _ _ _ _,rfl⟩
  ·cases ho
   exact wp_val (by simp[execOp,Act.eval,b1]<;>rfl) ⟨_,g,rfl,hinv,KG.refl _ _ _ _,rfl⟩
  ·cases ho
   have d1:b.tmps.getD 192 undef=.int .i64 reg:=hdep 1 (by kernel_rfl)
   refine wp_call (by simp[execOp,Act.eval,d1,go_sem]<;>rfl) ((HA.out u).mono ?_)
   rintro e u' ⟨rfl,hb⟩
   exact⟨_,rfl,_,g,rfl,(hinv.ext (grpC 131 reg) hb).1,(hinv.ext (grpC 131 reg) hb).2,rfl⟩
  ·cases ho
   obtain⟨g',m1,m2,m3'⟩:=hinv.new (grpC 131 reg) 1
   exact wp_val (by simp[execOp,run_makeMap,Result.andThen]<;>rfl) ⟨_,g',rfl,m1,m2,_,rfl,m3'⟩
  ·cases ho
   obtain⟨B,e1,e2⟩:=hdep 3 (by kernel_rfl)
   have d3:b.tmps.getD 194 undef=.map (some B):=e1
   obtain⟨u',m1,m2,m3',m4⟩:=hinv.put (grpC 131 reg) 100 5 3 Tryz.underlying100 Tryz.underlying5 B sz8 (.inl ⟨e2,rfl⟩) 128
   rw[show sz8 128=.int .i64 1 by simp[sz8]]at m1
   exact wp_skip (by simp[execOp,Act.eval,d3,m1,Result.andThen]<;>rfl) ⟨_,g,rfl,m2,m3',B,e1,e2,m4⟩
  ·cases ho
   obtain⟨B,e1,e2⟩:=hdep 3 (by kernel_rfl)
   have d3:b.tmps.getD 194 undef=.map (some B):=e1
   obtain⟨u',m1,m2,m3',m4⟩:=hinv.put (grpC 131 reg) 100 5 3 Tryz.underlying100 Tryz.underlying5 B sz8 (.inl ⟨e2,rfl⟩) 129
   rw[show sz8 129=.int .i64 4 by simp[sz8]]at m1
   exact wp_skip (by simp[execOp,Act.eval,d3,m1,Result.andThen]<;>rfl) ⟨_,g,rfl,m2,m3',B,e1,e2,m4⟩
  ·cases ho
   obtain⟨B,e1,e2⟩:=hdep 3 (by kernel_rfl)
   have d3:b.tmps.getD 194 undef=.map (some B):=e1
   obtain⟨u',m1,m2,m3',m4⟩:=hinv.put (grpC 131 reg) 100 5 3 Tryz.underlying100 Tryz.underlying5 B sz8 (.inl ⟨e2,rfl⟩) 131
   rw[show sz8 131=.int .i64 4 by simp[sz8]]at m1
   exact wp_skip (by simp[execOp,Act.eval,d3,m1,Result.andThen]<;>rfl) ⟨_,g,rfl,m2,m3',B,e1,e2,m4⟩
  ·cases ho
   obtain⟨B,e1,e2,e3⟩:=hdep 6 (by kernel_rfl)
   have d3:b.tmps.getD 194 undef=.map (some B):=e1
   exact wp_val (by simp[execOp,Act.eval,d3]<;>rfl) ⟨_,g,rfl,hinv,KG.refl _ _ _ _,B,rfl,e2,e3⟩
  ·cases ho
   exact wp_val (by simp[execOp,Act.eval,b0]<;>rfl) ⟨_,g,rfl,hinv,KG.refl _ _ _ _,rfl⟩
  ·cases ho
   obtain⟨B,e1,e2,e3⟩:=hdep 7 (by kernel_rfl)
   have d7:b.tmps.getD 195 undef=.map (some B):=e1
   have d8:b.tmps.getD 196 undef=.int .u8 131:=hdep 8 (by kernel_rfl)
   have m1:=map_get 100 5 3 Tryz.underlying100 Tryz.underlying5 (hinv.one B e2) 131 e3
   exact wp_val (by simp[execOp,Act.eval,d7,d8,m1,Result.andThen]<;>rfl) ⟨_,g,rfl,hinv,KG.refl _ _ _ _,rfl⟩
  ·cases ho
   obtain⟨g',m1,m2,m3'⟩:=hinv.new (grpC 131 reg) 2
   exact wp_val (by simp[execOp,run_makeMap,Result.andThen]<;>rfl) ⟨_,g',rfl,m1,m2,_,rfl,m3'⟩
  ·cases ho
   obtain⟨B,e1,e2⟩:=hdep 10 (by kernel_rfl)
   have d10:b.tmps.getD 198 undef=.map (some B):=e1
   obtain⟨u',m1,m2,m3',m4⟩:=hinv.put (grpC 131 reg) 99 5 9 Tryz.underlying99 Tryz.underlying5 B hw8 (.inr ⟨e2,rfl⟩) 128
   rw[show hw8 128=.string ⟨#[69,73]⟩by simp[hw8]]at m1
   exact wp_skip (by simp[execOp,Act.eval,d10,m1,Result.andThen]<;>rfl) ⟨_,g,rfl,m2,m3',B,e1,e2,m4⟩
  ·cases ho
   obtain⟨B,e1,e2⟩:=hdep 10 (by kernel_rfl)
   have d10:b.tmps.getD 198 undef=.map (some B):=e1
   obtain⟨u',m1,m2,m3',m4⟩:=hinv.put (grpC 131 reg) 99 5 9 Tryz.underlying99 Tryz.underlying5 B hw8 (.inr ⟨e2,rfl⟩) 129
   rw[show hw8 129=.string ⟨#[69,73]⟩by simp[hw8]]at m1
   exact wp_skip (by simp[execOp,Act.eval,d10,m1,Result.andThen]<;>rfl) ⟨_,g,rfl,m2,m3',B,e1,e2,m4⟩
  ·cases ho
   obtain⟨B,e1,e2⟩:=hdep 10 (by kernel_rfl)
   have d10:b.tmps.getD 198 undef=.map (some B):=e1
   obtain⟨u',m1,m2,m3',m4⟩:=hinv.put (grpC 131 reg) 99 5 9 Tryz.underlying99 Tryz.underlying5 B hw8 (.inr ⟨e2,rfl⟩) 131
   rw[show hw8 131=.string ⟨#[69,98]⟩by simp[hw8]]at m1
   exact wp_skip (by simp[execOp,Act.eval,d10,m1,Result.andThen]<;>rfl) ⟨_,g,rfl,m2,m3',B,e1,e2,m4⟩
  ·cases ho
   obtain⟨B,e1,e2,e3⟩:=hdep 13 (by kernel_rfl)
   have d10:b.tmps.getD 198 undef=.map (some B):=e1
   exact wp_val (by simp[execOp,Act.eval,d10]<;>rfl) ⟨_,g,rfl,hinv,KG.refl _ _ _ _,B,rfl,e2,e3⟩
  ·cases ho
   exact wp_val (by simp[execOp,Act.eval,b0]<;>rfl) ⟨_,g,rfl,hinv,KG.refl _ _ _ _,rfl⟩
  ·cases ho
   obtain⟨B,e1,e2,e3⟩:=hdep 14 (by kernel_rfl)
   have d14:b.tmps.getD 199 undef=.map (some B):=e1
   have d15:b.tmps.getD 200 undef=.int .u8 131:=hdep 15 (by kernel_rfl)
   have m1:=map_get 99 5 9 Tryz.underlying99 Tryz.underlying5 (hinv.two B e2) 131 e3
   exact wp_val (by simp[execOp,Act.eval,d14,d15,m1,Result.andThen]<;>rfl) ⟨_,g,rfl,hinv,KG.refl _ _ _ _,rfl⟩
  ·cases ho
   have d0:b.tmps.getD 191 undef=.int .u8 131:=hdep 0 (by kernel_rfl)
   have d2:b.tmps.getD 193 undef=.int .i64 (grpF alus reg):=hdep 2 (by kernel_rfl)
   have d9:b.tmps.getD 197 undef=sz8 131:=hdep 9 (by kernel_rfl)
   have d16:b.tmps.getD 201 undef=hw8 131:=hdep 16 (by kernel_rfl)
   refine wp_call (by simp[execOp,Act.eval,d0,d2,d9,d16,sz8,hw8,go_sem]<;>rfl) ((HI.out u).mono ?_)
   rintro e u' ⟨rfl,hb⟩
   exact⟨_,rfl,_,g,rfl,(hinv.ext (grpC 131 reg) hb).1,(hinv.ext (grpC 131 reg) hb).2,rfl⟩
  ·cases ho
   have d17:b.tmps.getD 202 undef=.tuple #[.agg (grpC 131 reg),.bool (grpF alus reg != 0),.bool false]:=hdep 17 (by kernel_rfl)
   exact wp_val (by simp[execOp,Act.eval,d17,go_sem]<;>rfl) ⟨_,g,rfl,hinv,KG.refl _ _ _ _,rfl⟩
  ·cases ho
   have d17:b.tmps.getD 202 undef=.tuple #[.agg (grpC 131 reg),.bool (grpF alus reg != 0),.bool false]:=hdep 17 (by kernel_rfl)
   exact wp_val (by simp[execOp,Act.eval,d17,go_sem]<;>rfl) ⟨_,g,rfl,hinv,KG.refl _ _ _ _,rfl⟩
  ·cases ho
   have d17:b.tmps.getD 202 undef=.tuple #[.agg (grpC 131 reg),.bool (grpF alus reg != 0),.bool false]:=hdep 17 (by kernel_rfl)
   exact wp_val (by simp[execOp,Act.eval,d17,go_sem]<;>rfl) ⟨_,g,rfl,hinv,KG.refl _ _ _ _,rfl⟩
  ·cases ho
   have d18:b.tmps.getD 203 undef=.agg (grpC 131 reg):=hdep 18 (by kernel_rfl)
   obtain⟨x0,e0⟩:=Option.isSome_iff_exists.1 (hinv.inv.there 0 (by decide))
   have z0:=hinv.inv.froz 0
   obtain⟨x1,e1⟩:=Option.isSome_iff_exists.1 (hinv.inv.there 1 (by decide))
   have z1:=hinv.inv.froz 1
   obtain⟨x2,e2⟩:=Option.isSome_iff_exists.1 (hinv.inv.there 2 (by decide))
   have z2:=hinv.inv.froz 2
   obtain⟨x3,e3⟩:=Option.isSome_iff_exists.1 (hinv.inv.there 3 (by decide))
   have z3:=hinv.inv.froz 3
   obtain⟨x4,e4⟩:=Option.isSome_iff_exists.1 (hinv.inv.there 4 (by decide))
   have z4:=hinv.inv.froz 4
   obtain⟨f1,f2,f3⟩:=hinv.five (.int .i64 (grpF alus reg)) (.int .i64 0) (sz8 131) (hw8 131) (.int .i64 (131%8))
   exact wp_skip (by simp[execOp,Act.eval,d18,b6,grpC,sz8,hw8,go_sem,e0,e1,e2,e3,e4,z0,z1,z2,z3,z4]<;>rfl) ⟨_,g,rfl,f1,f2,f3⟩
  ·cases ho
   have d19:b.tmps.getD 204 undef=.bool (grpF alus reg != 0):=hdep 19 (by kernel_rfl)
   exact wp_val (by simp[execOp,Act.eval,d19]<;>rfl) ⟨_,g,rfl,hinv,KG.refl _ _ _ _,rfl⟩
  ·cases ho
   have d20:b.tmps.getD 205 undef=.bool false:=hdep 20 (by kernel_rfl)
   exact wp_val (by simp[execOp,Act.eval,d20]<;>rfl) ⟨_,g,rfl,hinv,KG.refl _ _ _ _,rfl⟩
 ·intro f u g hinv hV
  have q20:f 22=.bool (grpF alus reg != 0):=hV 22 (by decide)
  have q21:f 23=.bool false:=hV 23 (by decide)
  have qF:=hV 21 (by decide)
  generalize hb:laid _ f _ _=b
  have b6:b.tmps.getD 6 undef=.pointer (some ⟨w.heap.size,0,none⟩):=by rw[←hb];kernel_rfl
  have b7:b.tmps.getD 7 undef=.bool (grpF alus reg != 0):=by rw[←hb,←q20];kernel_rfl
  have b8:b.tmps.getD 8 undef=.bool false:=by rw[←hb,←q21];kernel_rfl
  have bd:b.defers=[]:=by rw[←hb];kernel_rfl
  clear hb
  rw[Array.getD_eq_getD_getElem?]at b6 b7 b8
  go_wp2_with fail
  have w0:u.cell? ⟨w.heap.size,0,none⟩=some (Value.int .i64 (grpF alus reg)):=qF 0 _ rfl
  have w1:u.cell? ⟨w.heap.size,1,none⟩=some (Value.int .i64 0):=qF 1 _ rfl
  have w2:u.cell? ⟨w.heap.size,2,none⟩=some (Value.int .i64 4):=qF 2 _ rfl
  have w3:u.cell? ⟨w.heap.size,3,none⟩=some (Value.string ⟨([69,98]:List UInt8).toArray⟩):=qF 3 _ rfl
  have w4:u.cell? ⟨w.heap.size,4,none⟩=some (Value.int .i64 3):=qF 4 _ rfl
  refine bodyPost_ret (v:=.tuple #[.agg #[.int .i64 (grpF alus reg),.int .i64 0,.int .i64 4,.string ⟨([69,98]:List UInt8).toArray⟩,.int .i64 3],.bool (grpF alus reg != 0),.bool false]) (by simp[results,Tryz.results20,go_sem,b6,b7,b8,w0,w1,w2,w3,w4]) bd ⟨by rw[HX.out];rfl,hinv.inv.below⟩
end
end Go.Proofs.YtmdncgfheeijaaaGreat
