import Derived.Test.YtmdncgfheeijaaaGreatKVG41
namespace Go.Proofs.YtmdncgfheeijaaaGreat
open Go.ChangeShapes Go.WideShapes Go.ChangeAt Go.RowKit
set_option maxRecDepth 100000
def MapOf(u:World)(B:Nat)(T:Int→Value):Prop:=∃es clk,u.heap[B]?=some (.map es clk)∧∀x∈es.toList,∃z,x.key=.int .u8 z∧x.val=T z
def HasKey(u:World)(B:Nat)(z:Int):Prop:=∃es clk,u.heap[B]?=some (.map es clk)∧∃x,x∈es.toList∧x.key=.int .u8 z
theorem map_put{P:Program}{u:World}{B:Nat}{T:Int→Value}(mty kt et:TypeId)(hm:P.underlying mty=some (.map kt et))(hk:P.underlying kt=some (.int .u8))(h:MapOf u B T)(z:Int):
  ∃o,(Instr.mapUpdate mty (.map (some B)) (.int .u8 z) (T z)).run P u=.ok () { u with heap:=u.heap.setIfInBounds B o }∧(∃es clk,u.heap[B]?=some (.map es clk))∧(∃es clk,o=.map es clk)∧MapOf { u with heap:=u.heap.setIfInBounds B o } B T∧HasKey { u with heap:=u.heap.setIfInBounds B o } B z∧∀z',HasKey u B z'→HasKey { u with heap:=u.heap.setIfInBounds B o } B z':=by
 obtain⟨es,clk,hb,hT⟩:=h
 have hK:MapKept.IsKey (.int .u8) (.int .u8 z):=by simp[MapKept.IsKey]
 have hks:∀x∈es.toList,MapKept.IsKey (.int .u8) x.key:=fun x hx=>by
  obtain⟨q,hq,_⟩:=hT x hx
  rw[hq];simp[MapKept.IsKey]
 have hset:∀o,(u.heap.setIfInBounds B o)[B]?=some o:=fun o=>(MapKept.heap_set hb).1
 rcases MapKept.findNow_spec hK es.toList 0 hks with⟨h1,h2⟩|⟨j,e,h1,h2,h3⟩
 ·refine⟨.map (es.push { key:=.int .u8 z,val:=T z,born:=clk }) (clk+1),?_,⟨es,clk,hb⟩,⟨_,_,rfl⟩,⟨_,_,hset _,?_⟩,⟨_,_,hset _,⟨{ key:=.int .u8 z,val:=T z,born:=clk },by simp,rfl⟩⟩,?_⟩
  ·simp[Instr.mapUpdate,run_underlying hm,MapKept.run_getObj_map hb,MapKept.run_checkKey hk hK,MapKept.run_findKey hk h1,MapKept.run_setObj_map _ hb,Result.andThen]
  ·intro x hx
   simp only[Array.toList_push,List.mem_append,List.mem_singleton]at hx
   rcases hx with hx|rfl
   ·exact hT x hx
   ·exact⟨z,rfl,rfl⟩
  ·rintro z' ⟨es',clk',hb',x,hx,hxk⟩
   rw[hb]at hb'
   cases hb'
   exact⟨_,_,hset _,x,by simp only[Array.toList_push,List.mem_append];exact .inl hx,hxk⟩
 ·have hj:es[j]?=some e:=by simpa using h2
  obtain⟨q,hq,hv⟩:=hT e (List.mem_of_getElem? (by simpa using h2))
  obtain rfl:q=z:=by rw[hq]at h3;injection h3
  refine⟨.map (es.modify j fun e=>{ e with key:=.int .u8 q,val:=T q }) clk,?_,⟨es,clk,hb⟩,⟨_,_,rfl⟩,?_⟩
  ·simp[Instr.mapUpdate,run_underlying hm,MapKept.run_getObj_map hb,MapKept.run_checkKey hk hK,MapKept.run_findKey hk h1,hj,h3,MapKept.run_keyThatStays hK,MapKept.run_setObj_map _ hb,Result.andThen]
  ·have hkeys:∀x,x∈(es.modify j fun e=>{ e with key:=.int .u8 q,val:=T q }).toList→(∃z,x.key=.int .u8 z∧x.val=T z):=by
    intro x hx
    obtain⟨k,hk'⟩:=List.mem_iff_getElem?.1 hx
    rw[Array.getElem?_toList,Array.getElem?_modify]at hk'
    by_cases hjk:j=k
    ·rw[if_pos hjk]at hk'
     rw[←hjk,hj]at hk'
     cases hk'
     exact⟨q,rfl,rfl⟩
    ·rw[if_neg hjk]at hk'
     exact hT x (List.mem_of_getElem? (by rw[Array.getElem?_toList];exact hk'))
   have hhas:∀z',(∃x,x∈es.toList∧x.key=.int .u8 z')→∃x,x∈(es.modify j fun e=>{ e with key:=.int .u8 q,val:=T q }).toList∧x.key=.int .u8 z':=by
    rintro z' ⟨x,hx,hxk⟩
    obtain⟨k,hk'⟩:=List.mem_iff_getElem?.1 hx
    rw[Array.getElem?_toList]at hk'
    by_cases hjk:j=k
    ·refine⟨{ e with key:=.int .u8 q,val:=T q },List.mem_of_getElem? (i:=k) (by rw[Array.getElem?_toList,Array.getElem?_modify,if_pos hjk,←hjk,hj];rfl),?_⟩
     rw[←hjk,hj]at hk'
     cases hk'
     rw[←hxk,hq]
    ·exact⟨x,List.mem_of_getElem? (i:=k) (by rw[Array.getElem?_toList,Array.getElem?_modify,if_neg hjk];exact hk'),hxk⟩
   refine⟨⟨_,_,hset _,hkeys⟩,⟨_,_,hset _,hhas q ⟨e,List.mem_of_getElem? (by simpa using h2),h3⟩⟩,?_⟩
   rintro z' ⟨es',clk',hb',hx⟩
   rw[hb]at hb'
   cases hb'
   exact⟨_,_,hset _,hhas z' hx⟩
theorem map_get{P:Program}{u:World}{B:Nat}{T:Int→Value}(mty kt et:TypeId)(hm:P.underlying mty=some (.map kt et))(hk:P.underlying kt=some (.int .u8))(h:MapOf u B T)(z:Int)(hz:HasKey u B z):
  (Instr.lookup mty (.map (some B)) (.int .u8 z) false).run P u=.ok (T z) u:=by
 obtain⟨es,clk,hb,hT⟩:=h
 obtain⟨es',clk',hb',x,hx,hxk⟩:=hz
 rw[hb]at hb'
 cases hb'
 have hK:MapKept.IsKey (.int .u8) (.int .u8 z):=by simp[MapKept.IsKey]
 have hks:∀x∈es.toList,MapKept.IsKey (.int .u8) x.key:=fun x hx=>by
  obtain⟨q,hq,_⟩:=hT x hx
  rw[hq];simp[MapKept.IsKey]
 have hc:∀e,(Instr.checkKey e 10000 kt (.int .u8 z)).run P u=.ok () u:=fun e=>MapKept.run_checkKey (k:=.int .u8 z) hk hK e 9999
 rcases MapKept.findNow_spec hK es.toList 0 hks with⟨_,h2⟩|⟨j,e,h1,h2,h3⟩
 ·exact absurd hxk (h2 x hx)
 ·obtain⟨q,hq,hv⟩:=hT e (List.mem_of_getElem? h2)
  obtain rfl:q=z:=by rw[hq]at h3;injection h3
  simp[Instr.lookup,run_underlying hm,MapKept.run_getObj_map hb,hc,MapKept.run_findKey hk h1,Result.andThen,hv]
theorem cell_set{u:World}{B:Nat}{o:Obj}{ad:Addr}{v:Value}(hb:∃es clk,u.heap[B]?=some (.map es clk))(h:u.cell? ad=some v):({ u with heap:=u.heap.setIfInBounds B o }:World).cell? ad=some v:=by
 obtain⟨es,clk,hb⟩:=hb
 have hne:ad.block≠B:=fun e=>by
  unfold World.cell? at h
  rw[e,hb]at h
  cases h
 have:=(MapKept.heap_set (o':=o) hb).2 ad.block hne
 unfold World.cell? at h ⊢
 rw[show({ u with heap:=u.heap.setIfInBounds B o }:World).heap=u.heap.setIfInBounds B o from rfl,this]
 exact h
theorem other_set{u:World}{B B':Nat}{o:Obj}(hb:∃es clk,u.heap[B]?=some (.map es clk))(hne:B'≠B):({ u with heap:=u.heap.setIfInBounds B o }:World).heap[B']?=u.heap[B']?:=by
 obtain⟨es,clk,hb⟩:=hb
 exact(MapKept.heap_set (o':=o) hb).2 B' hne
structure KInv (w:World) (R n:Nat) (T1 T2:Int→Value) (u:World) (g:Nat→Nat):Prop where
 inv:RInv w R n u
 lt:∀B,g B≠0→R<B∧B<u.heap.size
 one:∀B,g B=1→MapOf u B T1
 two:∀B,g B=2→MapOf u B T2
structure KG (R:Nat) (C:Array Value) (u:World) (g:Nat→Nat) (u':World) (g':Nat→Nat):Prop where
 cells:RG R C u u'
 kind:∀B,g B≠0→g' B=g B
 has:∀B z,g B≠0→HasKey u B z→HasKey u' B z
theorem KG.refl(R:Nat)(C:Array Value)(u:World)(g:Nat→Nat):KG R C u g u g:=⟨RG.refl _ _ _,fun _ _=>rfl,fun _ _ _ h=>h⟩
theorem KInv.ext{w u u':World}{R n:Nat}{T1 T2:Int→Value}{g:Nat→Nat}(C:Array Value)(h:KInv w R n T1 T2 u g)(hb:Below u.heap.size u u'):KInv w R n T1 T2 u' g∧KG R C u g u' g:=by
 have e:=h.inv.ext C hb
 have hh:∀B,g B≠0→u'.heap[B]?=u.heap[B]?:=fun B hB=>hb.block B (h.lt B hB).2
 refine⟨⟨e.1,fun B hB=>⟨(h.lt B hB).1,Nat.lt_of_lt_of_le (h.lt B hB).2 hb.size⟩,fun B hB=>?_,fun B hB=>?_⟩,⟨e.2,fun _ _=>rfl,fun B z hB hz=>?_⟩⟩
 ·have:=h.one B hB
  unfold MapOf at this ⊢
  rw[hh B (by omega)]
  exact this
 ·have:=h.two B hB
  unfold MapOf at this ⊢
  rw[hh B (by omega)]
  exact this
 ·unfold HasKey at hz ⊢
  rw[hh B hB]
  exact hz
theorem KInv.new{w u:World}{R n:Nat}{T1 T2:Int→Value}{g:Nat→Nat}(C:Array Value)(h:KInv w R n T1 T2 u g)(k:Nat):
  ∃g',KInv w R n T1 T2 (u.alloc (.map #[] 0)) g'∧KG R C u g (u.alloc (.map #[] 0)) g'∧g' u.heap.size=k:=by
 obtain⟨e1,e2⟩:=h.ext C (below_last (Below.refl _ u) (.map #[] 0))
 have hnew:MapOf (u.alloc (.map #[] 0)) u.heap.size T1∧MapOf (u.alloc (.map #[] 0)) u.heap.size T2:=⟨⟨#[],0,(MapKept.heap_alloc u _).1,by simp⟩,⟨#[],0,(MapKept.heap_alloc u _).1,by simp⟩⟩
 refine⟨fun B=>if B=u.heap.size then k else g B,⟨e1.inv,fun B hB=>?_,fun B hB=>?_,fun B hB=>?_⟩,⟨e2.cells,fun B hB=>?_,fun B z hB hz=>e2.has B z hB hz⟩,by simp⟩
 ·by_cases hs:B=u.heap.size
  ·exact⟨by rw[hs];exact h.inv.lt,by rw[hs];simp⟩
  ·simp only[if_neg hs]at hB
   exact e1.lt B hB
 ·by_cases hs:B=u.heap.size
  ·rw[hs];exact hnew.1
  ·simp only[if_neg hs]at hB
   exact e1.one B hB
 ·by_cases hs:B=u.heap.size
  ·rw[hs];exact hnew.2
  ·simp only[if_neg hs]at hB
   exact e1.two B hB
 ·have:=(h.lt B hB).2
  rw[if_neg (by omega)]
theorem KInv.put{P:Program}{w u:World}{R n:Nat}{T1 T2:Int→Value}{g:Nat→Nat}(C:Array Value)(h:KInv w R n T1 T2 u g)(mty kt et:TypeId)(hm:P.underlying mty=some (.map kt et))(hk:P.underlying kt=some (.int .u8))(B:Nat)(T:Int→Value)(hB:g B=1∧T=T1∨g B=2∧T=T2)(z:Int):
  ∃u',(Instr.mapUpdate mty (.map (some B)) (.int .u8 z) (T z)).run P u=.ok () u'∧KInv w R n T1 T2 u' g∧KG R C u g u' g∧HasKey u' B z:=by
 have hof:MapOf u B T:=by
  rcases hB with⟨h1,rfl⟩|⟨h1,rfl⟩
  ·exact h.one B h1
  ·exact h.two B h1
 have hB0:g B≠0:=by omega
 obtain⟨hRB,hBl⟩:=h.lt B hB0
 obtain⟨o,hrun,hmap,⟨es',clk',ho⟩,h1,h2,h3⟩:=map_put mty kt et hm hk hof z
 have hsz:({ u with heap:=u.heap.setIfInBounds B o }:World).heap.size=u.heap.size:=by simp
 have hoth:∀B',B'≠B→({ u with heap:=u.heap.setIfInBounds B o }:World).heap[B']?=u.heap[B']?:=fun B' hne=>other_set hmap hne
 have hkeep:∀B' T',B'≠B→MapOf u B' T'→MapOf { u with heap:=u.heap.setIfInBounds B o } B' T':=fun B' T' hne hq=>by
  unfold MapOf at hq ⊢
  rw[hoth B' hne]
  exact hq
 refine⟨_,hrun,⟨⟨⟨h.inv.below.os,h.inv.below.tape,h.inv.below.output,by rw[hsz];exact h.inv.below.size,fun k hk=>by rw[hoth k (by omega)];exact h.inv.below.block k hk⟩,by rw[hsz];exact h.inv.lt,fun i hi=>?_,fun i=>?_⟩,fun B' hB'=>by rw[hsz];exact h.lt B' hB',fun B' hB'=>?_,fun B' hB'=>?_⟩,⟨⟨fun ad v _ hc=>cell_set hmap hc,fun hf i v hi=>cell_set hmap (hf i v hi)⟩,fun _ _=>rfl,fun B' z' _ hz'=>?_⟩,h2⟩
 ·obtain⟨x,hx⟩:=Option.isSome_iff_exists.1 (h.inv.there i hi)
  rw[cell_set hmap hx]
  rfl
 ·have:=h.inv.froz i
  unfold World.frozen? at this ⊢
  rw[hoth R (by omega)]
  exact this
 ·by_cases hne:B'=B
  ·subst hne
   rcases hB with⟨_,rfl⟩|⟨hq,_⟩
   ·exact h1
   ·omega
  ·exact hkeep B' T1 hne (h.one B' hB')
 ·by_cases hne:B'=B
  ·subst hne
   rcases hB with⟨hq,_⟩|⟨_,rfl⟩
   ·omega
   ·exact h1
  ·exact hkeep B' T2 hne (h.two B' hB')
 ·by_cases hne:B'=B
  ·subst hne;exact h3 z' hz'
  ·unfold HasKey at hz' ⊢
   rw[hoth B' hne]
   exact hz'
theorem KInv.five{w u:World}{R:Nat}{T1 T2:Int→Value}{g:Nat→Nat}(h:KInv w R 5 T1 T2 u g)(a b c d e:Value):
  KInv w R 5 T1 T2 (((((u.setCell ⟨R,0,none⟩ a).setCell ⟨R,1,none⟩ b).setCell ⟨R,2,none⟩ c).setCell ⟨R,3,none⟩ d).setCell ⟨R,4,none⟩ e) g ∧
  KG R #[a,b,c,d,e] u g (((((u.setCell ⟨R,0,none⟩ a).setCell ⟨R,1,none⟩ b).setCell ⟨R,2,none⟩ c).setCell ⟨R,3,none⟩ d).setCell ⟨R,4,none⟩ e) g ∧
  Full R #[a,b,c,d,e] (((((u.setCell ⟨R,0,none⟩ a).setCell ⟨R,1,none⟩ b).setCell ⟨R,2,none⟩ c).setCell ⟨R,3,none⟩ d).setCell ⟨R,4,none⟩ e):=by
 obtain⟨f1,f2,f3⟩:=h.inv.five a b c d e
 have hoth:∀(x:World) (i:Nat) (v:Value) (B:Nat),B≠R→(x.setCell ⟨R,i,none⟩ v).heap[B]?=x.heap[B]?:=fun x i v B hB=>by
  unfold World.setCell
  simp only[Array.getElem?_modify]
  exact if_neg (fun e=>hB e.symm)
 have hall:∀B,B≠R→(((((u.setCell ⟨R,0,none⟩ a).setCell ⟨R,1,none⟩ b).setCell ⟨R,2,none⟩ c).setCell ⟨R,3,none⟩ d).setCell ⟨R,4,none⟩ e).heap[B]?=u.heap[B]?:=fun B hB=>by
  rw[hoth _ _ _ B hB,hoth _ _ _ B hB,hoth _ _ _ B hB,hoth _ _ _ B hB,hoth _ _ _ B hB]
 have hne:∀B,g B≠0→B≠R:=fun B hB=>by have:=(h.lt B hB).1;omega
 refine⟨⟨f1,fun B hB=>⟨(h.lt B hB).1,by simpa[World.setCell]using(h.lt B hB).2⟩,fun B hB=>?_,fun B hB=>?_⟩,⟨f2,fun _ _=>rfl,fun B z hB hz=>?_⟩,f3⟩
 ·have:=h.one B hB
  unfold MapOf at this ⊢
  rw[hall B (hne B (by omega))]
  exact this
 ·have:=h.two B hB
  unfold MapOf at this ⊢
  rw[hall B (hne B (by omega))]
  exact this
 ·unfold HasKey at hz ⊢
  rw[hall B (hne B hB)]
  exact hz
end Go.Proofs.YtmdncgfheeijaaaGreat
