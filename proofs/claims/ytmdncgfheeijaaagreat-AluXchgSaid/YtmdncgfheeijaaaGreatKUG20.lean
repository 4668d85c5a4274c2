import Derived.WideMake
import Derived.Carry
import Derived.RegionTactic
import Derived.ChangeAlike
import Derived.Test.YtmdncgfheeijaaaGreatKUG19
namespace Go.Proofs.YtmdncgfheeijaaaGreat
section
open Go.ChangeShapes Go.WideShapes Go.ChangeAt Go.RowKit
set_option maxRecDepth 100000
def dirB(s:Sta)(op:Int):Bool:=if op=44 then false else if op=45 then true else s.d
def AluT(g:Int→Int)(dd:Sg)(s:Sta)(I:Ins):Sta:=if aluE g dd s I=0 then{ aluT g dd s I with d:=dirB s I.op }else s
end
section
open Go.RowKit
set_option maxRecDepth 100000
theorem set_top(w:World)(o o':Obj):({ (w.alloc o)with heap:=(w.alloc o).heap.setIfInBounds w.heap.size o' }:World)=w.alloc o':=by
 have h:(w.heap.push o).setIfInBounds w.heap.size o'=w.heap.push o':=by
  apply Array.ext_getElem?
  intro i
  simp only[Array.getElem?_setIfInBounds,Array.getElem?_push,Array.size_push]
  by_cases e:w.heap.size=i
  ·subst e;simp
  ·rw[if_neg e,if_neg (fun h=>e h.symm),if_neg (fun h=>e h.symm)]
 show({ w with heap:=(w.heap.push o).setIfInBounds w.heap.size o' }:World)={ w with heap:=w.heap.push o' }
 rw[h]
theorem litmap_put{P:Program}(w:World)(B:Nat)(hB:B=w.heap.size)(mty kt et:TypeId)(k:IntKind)(es:Array MapEntry)(clock:Nat)(key:Int)(val:Value)(hm:P.underlying mty=some (.map kt et))(hk:P.underlying kt=some (.int k))(hf:Instr.findNow (.int k) (.int k key) es.toList 0=some none):
  (Instr.mapUpdate mty (.map (some B)) (.int k key) val).run P (w.alloc (.map es clock))=.ok () (w.alloc (.map (es.push { key:=.int k key,val:=val,born:=clock }) (clock+1))):=by
 subst hB
 have hb:(w.alloc (.map es clock)).heap[w.heap.size]?=some (.map es clock):=by show(w.heap.push _)[w.heap.size]?=_;simp
 have hc:(Instr.checkKey false 10000 kt (.int k key)).run P (w.alloc (.map es clock))=.ok () (w.alloc (.map es clock)):=MapKept.run_checkKey (k:=.int k key) hk (by simp[MapKept.IsKey]) false 9999
 simp[Instr.mapUpdate,run_underlying hm,MapKept.run_getObj_map hb,hc,MapKept.run_findKey hk hf,MapKept.run_setObj_map _ hb,Result.andThen]
 exact set_top w _ _
theorem litmap_get{P:Program}(w:World)(B:Nat)(hB:B=w.heap.size)(mty kt et:TypeId)(k:IntKind)(es:Array MapEntry)(clock:Nat)(key:Int)(val:Value)(i:Nat)(hm:P.underlying mty=some (.map kt et))(hk:P.underlying kt=some (.int k))(hf:Instr.findNow (.int k) (.int k key) es.toList 0=some (some (i,val))):
  (Instr.lookup mty (.map (some B)) (.int k key) false).run P (w.alloc (.map es clock))=.ok val (w.alloc (.map es clock)):=by
 subst hB
 have hb:(w.alloc (.map es clock)).heap[w.heap.size]?=some (.map es clock):=by show(w.heap.push _)[w.heap.size]?=_;simp
 have hc:∀e,(Instr.checkKey e 10000 kt (.int k key)).run P (w.alloc (.map es clock))=.ok () (w.alloc (.map es clock)):=fun e=>MapKept.run_checkKey (k:=.int k key) hk (by simp[MapKept.IsKey]) e 9999
 simp[Instr.lookup,run_underlying hm,MapKept.run_getObj_map hb,hc,MapKept.run_findKey hk hf,Result.andThen]
end
section
open Go.ChangeShapes Go.WideShapes Go.ChangeAt Go.RowKit
set_option maxRecDepth 100000
def secondF(p c:Int):Frm×Bool:=
 if p=0 then
  if 64≤c∧c<80 then(⟨36,c%16,4,[71,69],0⟩,true)
  else if 128≤c∧c<144 then(⟨31,c%16,0,[105],0⟩,true)
  else if 144≤c∧c<160 then(⟨35,c%16,1,[69],0⟩,true)
  else if c=175 then(⟨25,0,4,[71,69],0⟩,true)
  else if c=182∨c=183 then(⟨19,0,1+c%2,[103,69],0⟩,true)
  else if c=190∨c=191 then(⟨20,0,1+c%2,[103,69],0⟩,true)
  else(nilF,false)
 else if p=242 then
  if c=16 then(⟨51,0,8,[88,89],0⟩,true)
  else if c=17 then(⟨51,0,8,[89,88],0⟩,true)
  else if c=42 then(⟨59,0,4,[88,101],0⟩,true)
  else if c=44 then(⟨60,0,8,[103,89],0⟩,true)
  else if c=81 then(⟨58,0,8,[88,89],0⟩,true)
  else if c=88 then(⟨52,0,8,[88,89],0⟩,true)
  else if c=89 then(⟨53,0,8,[88,89],0⟩,true)
  else if c=92 then(⟨54,0,8,[88,89],0⟩,true)
  else if c=93 then(⟨55,0,8,[88,89],0⟩,true)
  else if c=94 then(⟨56,0,8,[88,89],0⟩,true)
  else if c=95 then(⟨57,0,8,[88,89],0⟩,true)
  else(⟨0,0,8,[],0⟩,false)
 else if c=46 then(⟨61,0,8,[88,89],0⟩,true)
 else(nilF,false)
def secL(x:Frm×Bool):Value:=.tuple #[.agg #[.int .i64 x.1.op,.int .i64 x.1.cond,.int .i64 x.1.size,.string ⟨x.1.how.toArray⟩,.int .i64 x.1.c],.bool x.2]
end
section
set_option maxRecDepth 100000
def goF(L:Nat)(bs:Nat→Int)(f:Frm)(rep:Bool)(k:Nat):Ins×Int:=
 if hasF f.how then
  match rmF (L-k) (fun i=>bs (k+i))with
  |none=>(zeroI,21)
  |some (o,r,n)=>madeF ⟨f.op,f.cond,f.size,noneO,noneO,0,rep,0⟩ f o r L bs (k+n)
 else madeF ⟨f.op,f.cond,f.size,noneO,noneO,0,rep,0⟩ f zeroO 0 L bs k
def twoF(L:Nat)(bs:Nat→Int)(p:Int)(k:Nat):Ins×Int:=
 if L≤k then(zeroI,21)else if(secondF p (bs k)).2 then goF L bs (secondF p (bs k)).1 false (k+1)else(zeroI,22)
def oneF(L:Nat)(bs:Nat→Int):Ins×Int:=
 if L=0 then(zeroI,21)
 else if bs 0=243 then
  if L<2 then(zeroI,21)
  else if bs 1=164∨bs 1=165∨bs 1=170∨bs 1=171 then goF L bs (firstF (bs 1) (-1) false).1 true 2
  else(zeroI,22)
 else if bs 0=15 then twoF L bs 0 1
 else if bs 0=242∨bs 0=102 then
  if L<2 then(zeroI,21)else if bs 1=15 then twoF L bs (bs 0) 2 else(zeroI,22)
 else if(firstF (bs 0) (behF L bs 1) (behM L bs 1)).2.2 then(zeroI,21)
 else if(firstF (bs 0) (behF L bs 1) (behM L bs 1)).2.1 then goF L bs (firstF (bs 0) (behF L bs 1) (behM L bs 1)).1 false 1
 else(zeroI,22)
end
section
set_option maxRecDepth 100000
theorem rm_three{L:Nat}{bs:Nat→Int}{o:Opd}{r:Int}{n:Nat}(h:rmF L bs=some (o,r,n)):n≤L∧(o.kind=if bs 0/64=3 then 1 else 3):=by
 unfold rmF at h
 split at h
 ·cases h
 ·rename_i h0
  split at h
  ·rename_i h3
   injection h with h
   injection h with h h'
   injection h' with h1 h2
   subst h h2
   exact⟨by omega,by rw[if_pos h3]⟩
  ·rename_i h3
   split at h
   ·split at h
    ·cases h
    ·split at h
     ·cases h
     ·injection h with h
      injection h with h h'
      injection h' with h1 h2
      subst h h2
      exact⟨by omega,by rw[if_neg h3]⟩
   ·split at h
    ·cases h
    ·injection h with h
     injection h with h h'
     injection h' with h1 h2
     subst h h2
     exact⟨by omega,by rw[if_neg h3]⟩
end
end Go.Proofs.YtmdncgfheeijaaaGreat
