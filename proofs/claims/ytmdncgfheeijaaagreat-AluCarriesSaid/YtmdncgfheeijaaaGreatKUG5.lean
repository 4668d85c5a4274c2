import Derived.Test.YtmdncgfheeijaaaGreatRows
import Derived.ProofKit
import Derived.OpenShut
import Derived.BigRegion
import Derived.Lib.Hide
import Derived.WalkLawsBesides
import Derived.Maps.OwnSet
import Derived.Laws.IdiomCopy
import Derived.Sort.AssemblyPlain
import Derived.Sort.Row
import Derived.BigGuard
import Derived.BigCall
import Derived.BigQuiet
import Derived.CellFam
import Derived.Deep.Draws
import Derived.Deep.QuietTactic
import Derived.Deep.DeepCutAuto
import Derived.Test.YtmdncgfheeijaaaGreatKUG4
namespace Go.Proofs.YtmdncgfheeijaaaGreat
section
open Go.ChangeShapes Go.WideShapes Go.ChangeAt Go.RowKit
set_option maxRecDepth 100000
def condP(k:Nat)(fc fp fz fs fo:Bool):Bool:=[fo,fc,fz,fc || fz,fs,fp,fs != fo,fz || (fs != fo)].getD k false
def condH(c:Int)(fc fp fz fs fo:Bool):Bool:=if c<0∨15<c then false else condP (c/2).toNat fc fp fz fs fo != (c%2==1)
theorem sixteen(c:Int):c<0∨15<c∨c=0∨c=1∨c=2∨c=3∨c=4∨c=5∨c=6∨c=7∨c=8∨c=9∨c=10∨c=11∨c=12∨c=13∨c=14∨c=15:=by omega
theorem condH_in(c:Int)(fc fp fz fs fo:Bool)(c0:0≤c)(c1:c≤15):condH c fc fp fz fs fo=(condP (c/2).toNat fc fp fz fs fo != (c%2==1)):=by
 unfold condH;rw[if_neg (by omega)]
theorem condH_out(c:Int)(fc fp fz fs fo:Bool)(h:c<0∨15<c):condH c fc fp fz fs fo=false:=by
 unfold condH;rw[if_pos h]
end
section
set_option maxRecDepth 100000
def isAluB(op:Int):Bool:=!(op==23 || op==24)&&(op==35 || op==36 || op==37 || op==38 || op==41 || op==42 || op==43 || op==44 || op==45 || op==50 || decide (1≤op∧op≤30))
end
section
open Go.ChangeShapes Go.WideShapes Go.ChangeAt Go.RowKit Go.Maps Go.Deep
set_option maxRecDepth 100000
def ptrElem(v:Value):Option (DataW Unit×List MemPlace):=
 match v with
 | .pointer none=>some (.lit (.int .i64 (-1)),[])
 | .pointer (some ⟨k,0,none⟩)=>some (.lit (.int .i64 (k:Int)),[])
 |_=>none
def ptrOf:Option Nat→Value
 |none=>.pointer none
 |some k=>.pointer (some ⟨k,0,none⟩)
def codeOf:Option Nat→Int
 |none=>-1
 |some k=>(k:Int)
theorem ptrElem_of(o:Option Nat):ptrElem (ptrOf o)=some (.lit (.int .i64 (codeOf o)),[]):=by cases o<;>rfl
theorem ptrElem_inv{v:Value}{o:Option Nat}{ps:List MemPlace}(h:ptrElem v=some (.lit (.int .i64 (codeOf o)),ps)):v=ptrOf o:=by
 unfold ptrElem at h
 split at h
 ·cases o with
  |none=>rfl
  |some k=>injection h with h;injection h with h _;injection h with h;injection h with _ h;simp[codeOf]at h
 ·cases o with
  |none=>injection h with h;injection h with h _;injection h with h;injection h with _ h;simp[codeOf]at h
  |some k=>injection h with h;injection h with h _;injection h with h;injection h with _ h;simp only[codeOf]at h;rw[Int.ofNat_inj.1 h];rfl
 ·cases h
theorem zero_page(w:World):(zeroValue 118).run Tryz.prog w=.ok (.pointer none) w:=by kernel_rfl
def cnt(pt:Int→Option Nat):Nat→Nat
 |0=>0
 |x+1=>cnt pt x+if(pt (((x:Nat):Int)*4096)).isSome then 1 else 0
theorem cnt_le(pt:Int→Option Nat):∀x,cnt pt x≤x
 |0=>Nat.le_refl _
 |x+1=>by have:=cnt_le pt x;unfold cnt;split<;>omega
def setPt(pt:Int→Option Nat)(q:Int)(k:Nat):Int→Option Nat:=fun x=>if x=q then some k else pt x
theorem cnt_set(pt:Int→Option Nat)(y k:Nat)(h0:pt ((y:Int)*4096)=none):∀x,cnt (setPt pt ((y:Int)*4096) k) x=cnt pt x+if y<x then 1 else 0
 |0=>by simp[cnt]
 |x+1=>by
  have ih:=cnt_set pt y k h0 x
  unfold cnt
  rw[ih]
  by_cases hxy:x=y
  ·subst hxy
   rw[h0]
   simp[setPt]
  ·have hne:¬(((x:Nat):Int)*4096=(y:Int)*4096):=by omega
   have e:setPt pt ((y:Int)*4096) k (((x:Nat):Int)*4096)=pt (((x:Nat):Int)*4096):=by unfold setPt;rw[if_neg hne]
   rw[e]
   by_cases hlt:y<x
   ·simp[hlt,show y<x+1 by omega];omega
   ·simp[hlt,show ¬y<x+1 by omega]
structure PAt (w:World) (p:Nat) (F:Nat→Prop) (g:Int→Int) (pg:Int→Bool) (pt:Int→Option Nat) (B:Nat) (D:DataW Unit):Prop where
 cell:w.cell? ⟨p,0,none⟩=some (.map (some B))
 map:w.ownsMap Tryz.prog 22 ptrElem B (Maps.size D) D
 at_:∀q,0≤q→q<4294967296→D.atKey (.int .u32 q) (.lit (.int .i64 (-1)))=.lit (.int .i64 (codeOf (pt q)))
 has:∀q,Maps.has D (.int .u32 q)=(pt q).isSome
 size:∃N,N≤1048576∧Maps.size D≤cnt pt N∧1048576≤N
 page:∀q k,pt q=some k→(q%4096=0∧0≤q∧q<4294967296)∧F k∧k≠p∧k≠B∧w.rowIs k 143 4096 (fun i=>.int .u8 (g (q+i)))
 apart:∀q q' k,pt q=some k→pt q'=some k→q=q'
 none_:∀a,pt (a/4096*4096)=none→g a=0
 pgs:∀q,pg q=(pt q).isSome
 byte:∀a,0≤g a∧g a<256
 self:F p
 selfB:F B
 ne:p≠B
 lt:∀k,F k→k<w.heap.size
theorem PAt.but{F G:Nat→Prop}{w w':World}{p B:Nat}{g:Int→Int}{pg:Int→Bool}{pt:Int→Option Nat}{D:DataW Unit}(h:PAt w p F g pg pt B D)(hb:But G w w')(hn:∀k,F k→¬G k):PAt w' p F g pg pt B D:=
 ⟨hb.cell h.cell (hn _ h.self),hb.owns h.map (hn _ h.selfB),h.at_,h.has,h.size,fun q k hk=>by
  obtain⟨h1,h2,h3,h4,h5⟩:=h.page q k hk
  exact⟨h1,h2,h3,h4,h5.of_block (hb.block k (h.lt k h2) (hn k h2))⟩,h.apart,h.none_,h.pgs,h.byte,h.self,h.selfB,h.ne,fun k hk=>Nat.lt_of_lt_of_le (h.lt k hk) hb.size⟩
theorem PAt.below{F:Nat→Prop}{w w':World}{p B:Nat}{g:Int→Int}{pg:Int→Bool}{pt:Int→Option Nat}{D:DataW Unit}(h:PAt w p F g pg pt B D)(hb:Below w.heap.size w w'):PAt w' p F g pg pt B D:=
 h.but (G:=fun _=>False) (But.of_below hb) (fun _ _ h=>h)
theorem key_page(q:Int)(h0:0≤q)(h1:q<4294967296):keyOf Tryz.prog 22 (.int .u32 q)=some (.int .u32 q):=keyOf_int_mk Tryz.underlying22 (wf_u32 q h0 h1)
theorem PAt.get{F:Nat→Prop}{w:World}{p B:Nat}{g:Int→Int}{pg:Int→Bool}{pt:Int→Option Nat}{D:DataW Unit}(h:PAt w p F g pg pt B D)(q:Int)(h0:0≤q)(h1:q<4294967296):
  (Instr.lookup 113 (.map (some B)) (.int .u32 q) false).run Tryz.prog w=.ok (ptrOf (pt q)) w:=by
 obtain⟨v,ps,hrun,hv⟩:=h.map.lookup key_u32 Tryz.underlying113 (zero_page w) (ptrElem_of none) (key_page q h0 h1)
 rw[show(DataW.lit (.int .i64 (codeOf none)):DataW Unit)=.lit (.int .i64 (-1))from rfl,h.at_ q h0 h1]at hv
 rw[hrun,ptrElem_inv hv]
theorem PAt.setByte{F:Nat→Prop}{w:World}{p B:Nat}{g:Int→Int}{pg:Int→Bool}{pt:Int→Option Nat}{D:DataW Unit}(h:PAt w p F g pg pt B D){q:Int}{k:Nat}(hk:pt q=some k)(i:Nat)(hi:i<4096)(v:Int)(v0:0≤v)(v1:v<256):
  PAt (w.setCell ⟨k,i,none⟩ (.int .u8 v)) p F (setG g (q+i) v) pg pt B D:=by
 obtain⟨hq,hF,hp,hB,hrow⟩:=h.page q k hk
 have hbut:But (·=k) w (w.setCell ⟨k,i,none⟩ (.int .u8 v)):=(But.refl (·=k) w).setCell (a:=⟨k,i,none⟩) (fun _=>rfl) _
 refine⟨hbut.cell h.cell (fun e=>hp e.symm),hbut.owns h.map (fun e=>hB e.symm),h.at_,h.has,h.size,fun q' k' hk'=>?_,h.apart,fun a ha=>?_,h.pgs,fun a=>?_,h.self,h.selfB,h.ne,fun j hj=>by simpa using h.lt j hj⟩
 ·obtain⟨hq',hF',hp',hB',hrow'⟩:=h.page q' k' hk'
  refine⟨hq',hF',hp',hB',?_⟩
  by_cases e:k'=k
  ·subst e
   obtain rfl:=h.apart _ _ _ hk hk'
   refine(hrow.set i _).congr (fun j hj=>?_)
   unfold setG
   by_cases hji:j=i
   ·subst hji;simp
   ·rw[if_neg hji,if_neg (by omega)]
  ·refine(hrow'.setOther (by exact e) _).congr (fun j hj=>?_)
   unfold setG
   rw[if_neg]
   intro e2
   have:q'=q:=by omega
   subst this
   rw[hk]at hk'
   injection hk' with hk'
   exact e hk'.symm
 ·unfold setG
  rw[if_neg]
  ·exact h.none_ a ha
  ·intro e2
   rw[e2,show(q+i)/4096*4096=q by omega,hk]at ha
   cases ha
 ·unfold setG
  split
  ·exact⟨v0,v1⟩
  ·exact h.byte a
def isZ(v:Value):Bool:=
 match v with
 | .int .u8 0=>true
 |_=>false
theorem isZ_eq{v:Value}(h:isZ v=true):v=.int .u8 0:=by
 unfold isZ at h
 split at h
 ·rfl
 ·cases h
theorem pageZ:∃z:Array Value,(∀w,(zeroValue 143).run Tryz.prog w=.ok (.agg z) w)∧(z.toList.length==4096)=true∧(z.toList.all isZ)=true:=by
 refine⟨match(Tryz.prog.info? 143).bind (·.zero)with|some (.agg c)=>c|_=>#[],fun w=>?_,?_,?_⟩
 ·kernel_rfl
 ·kernel_rfl
 ·kernel_rfl
theorem alloc_page:∃z:Array Value,(∀w,(zeroValue 143).run Tryz.prog w=.ok (.agg z) w) ∧
  ∀w:World,(w.alloc (.cells z 143)).rowIs w.heap.size 143 4096 (fun _=>.int .u8 0):=by
 obtain⟨z,hz,hs,ha⟩:=pageZ
 have hs2:z.size=4096:=by simpa using hs
 refine⟨z,hz,fun w=>?_⟩
 ·have:=World.rowIs_alloc w z 143 (fun _=>.int .u8 0) (fun i hi=>by
   rw[Array.getElem?_eq_getElem hi]
   congr 1
   exact isZ_eq (List.all_eq_true.1 ha _ (by simp)))
  rwa[hs2]at this
end
section
open Go.ChangeShapes Go.WideShapes Go.ChangeAt Go.RowKit Go.Maps Go.Deep Go.Sort
set_option maxRecDepth 100000
def gt(d:Array Int)(t:Nat):Int:=d[t]!
structure Row (W w:World) (b:Nat) (d:Array Int):Prop where
 cell:∀t,t<d.size→w.cell? ⟨b,t,none⟩=some (.int .u32 (gt d t))
 fro:∀t,w.frozen? ⟨b,t,none⟩=false
 but:But (·=b) W w
theorem Row.drew{W w:World}{b:Nat}{d:Array Int}(h:Row W w b d):Row W w.drew b d:=⟨h.cell,h.fro,h.but.drew⟩
theorem Row.self{W w:World}{b:Nat}{d:Array Int}(h:Row W w b d):Row w w b d:=⟨h.cell,h.fro,But.refl _ _⟩
/-! insertion sort -/
end
end Go.Proofs.YtmdncgfheeijaaaGreat
