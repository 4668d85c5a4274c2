import Derived.Laws.MathBits
import Derived.Test.YtmdncgfheeijaaaGreatKVG5
namespace Go.Proofs.YtmdncgfheeijaaaGreat
open Go.ChangeShapes Go.WideShapes Go.ChangeAt Go.RowKit Go.Maps Go.Deep Go.Sort
set_option maxRecDepth 100000
structure RowS (W w:World) (b:Nat) (d:Array Int) (S:Nat) (s:Int):Prop where
 cell:∀t,t<d.size→w.cell? ⟨b,t,none⟩=some (.int .u32 (gt d t))
 fro:∀t,w.frozen? ⟨b,t,none⟩=false
 sc:w.cell? ⟨S,0,none⟩=some (.int .i64 s)
 sf:w.frozen? ⟨S,0,none⟩=false
 but:But (·=S) W w
 ne:b≠S
 s0:0≤s
theorem RowS.put{W w:World}{b:Nat}{d:Array Int}{S:Nat}{s:Int}(h:RowS W w b d S s)(s':Int)(h0:0≤s'):RowS W (w.setCell ⟨S,0,none⟩ (.int .i64 s')) b d S s':=
 ⟨fun t ht=>(World.cell?_setCell_other _ _ _ _ (by simp;intro e;exact absurd e.symm h.ne)).trans (h.cell t ht),fun t=>by rw[World.frozen?_setCell];exact h.fro t,World.cell?_setCell_same _ _ _ h.sc,by rw[World.frozen?_setCell];exact h.sf,h.but.setCell (a:=⟨S,0,none⟩) (fun _=>rfl) _,h.ne,h0⟩
structure CelS (W w:World) (S:Nat) (r:Int):Prop where
 cell:w.cell? ⟨S,0,none⟩=some (.int .u64 r)
 fro:w.frozen? ⟨S,0,none⟩=false
 but:But (·=S) W w
 r0:0≤r
 r1:r<18446744073709551616
theorem CelS.put{W w:World}{S:Nat}{r:Int}(h:CelS W w S r)(x y:Int):CelS W (w.setCell ⟨S,0,none⟩ (.int .u64 (bits .xor .u64 x y))).drew S (bits .xor .u64 x y):=
 ⟨World.cell?_setCell_same _ _ _ h.cell,by show(w.setCell _ _).frozen? _=false;rw[World.frozen?_setCell];exact h.fro,(h.but.setCell (a:=⟨S,0,none⟩) (fun _=>rfl) _).drew,(bits_within .xor .u64 x y).1,by have:=bits_hi_u64 .xor x y;omega⟩
theorem Row.other{W w w':World}{b S:Nat}{d:Array Int}(h:Row W w b d)(hb:But (·=S) w w')(hn:b≠S)(hS:W.heap.size≤S)(h0:0<d.size):Row W w' b d:=
 ⟨fun t ht=>hb.cell (h.cell t ht) hn,fun t=>by rw[hb.frozen (p:=⟨b,t,none⟩) (show b<_ from cell_lt (h.cell 0 h0)) hn];exact h.fro t,h.but.trans hb (fun i hi e=>by omega)⟩
end Go.Proofs.YtmdncgfheeijaaaGreat
