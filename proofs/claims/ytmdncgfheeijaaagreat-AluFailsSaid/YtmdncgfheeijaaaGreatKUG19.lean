import Derived.Test.YtmdncgfheeijaaaGreatKUG18
namespace Go.Proofs.YtmdncgfheeijaaaGreat
open Go.ChangeShapes Go.WideShapes Go.ChangeAt Go.RowKit
set_option maxRecDepth 100000
structure AI (w:World) (rb:Nat) (R:Nat→Prop) (g:Int→Int) (cc dd:Sg) (t:Sta) (I:Ins) (u:World):Prop where
 bt:u.heap[w.heap.size]?=some (.cells (staL t).toArray 29 (0,0))
 bi:u.heap[w.heap.size+1]?=some (.cells (insL I).toArray 34 (0,0))
 br:∃C,u.heap[w.heap.size+2]?=some (.cells C 29 (0,0))∧C.size=23
 bus:RBus u rb R g cc dd
 own:∀k,R k→k<w.heap.size
 but:But R w u
section
variable {w:World} {rb:Nat} {R:Nat→Prop} {g g':Int→Int} {cc dd:Sg} {s t t':Sta} {I:Ins} {u u' Y:World}
theorem AI.below(h:AI w rb R g cc dd t I u)(hb:Below u.heap.size u u'):AI w rb R g cc dd t I u':=by
 have k:∀{j:Nat} {x:Obj},u.heap[j]?=some x→u'.heap[j]?=some x:=fun{j x} hj=>(hb.block j (Array.getElem?_eq_some_iff.1 hj).1).trans hj
 obtain⟨C,hC,hz⟩:=h.br
 exact⟨k h.bt,k h.bi,⟨C,k hC,hz⟩,h.bus.below hb,h.own,h.but.trans (But.of_below (F:=R) hb) (fun _ _ h=>h)⟩
theorem AI.wrote(h:AI w rb R g cc dd t I u)(hr:RBus u' rb R g' cc dd)(hb:But R u u'):AI w rb R g' cc dd t I u':=by
 have k:∀{j:Nat} {x:Obj},w.heap.size≤j→u.heap[j]?=some x→u'.heap[j]?=some x:=fun{j x} hl hj=>(hb.block j (Array.getElem?_eq_some_iff.1 hj).1 (fun hR=>by have:=h.own j hR;omega)).trans hj
 obtain⟨C,hC,hz⟩:=h.br
 exact⟨k (by omega) h.bt,k (by omega) h.bi,⟨C,k (by omega) hC,hz⟩,hr,h.own,h.but.trans hb (fun _ _ h=>h)⟩
theorem AI.bfar(h:AI w rb R g cc dd t I u)(j:Nat)(hj:w.heap.size≤j)(hb:But (·=j) u Y):RBus Y rb R g cc dd∧But R w Y:=
 ⟨h.bus.but hb (fun i hi e=>by have:=h.own i hi;omega),⟨hb.os.trans h.but.os,hb.tape.trans h.but.tape,hb.output.trans h.but.output,Nat.le_trans h.but.size hb.size,fun i hi hR=>(hb.block i (Nat.lt_of_lt_of_le hi h.but.size) (by omega)).trans (h.but.block i hi hR)⟩⟩
theorem AI.put(h:AI w rb R g cc dd t I u)(k:Nat)(v:Value)(e:(staL t).toArray.setIfInBounds k v=(staL t').toArray):AI w rb R g cc dd t' I (u.setCell ⟨w.heap.size,k,none⟩ v):=by
 have hb:But (·=w.heap.size) u (u.setCell ⟨w.heap.size,k,none⟩ v):=(But.refl (·=w.heap.size) u).setCell (fun _=>rfl) v
 obtain⟨C,hC,hz⟩:=h.br
 obtain⟨q1,q2⟩:=h.bfar w.heap.size (Nat.le_refl _) hb
 refine⟨by rw[←e];exact block_setCell h.bt k v,(hb.block _ (Array.getElem?_eq_some_iff.1 h.bi).1 (by omega)).trans h.bi,⟨C,(hb.block _ (Array.getElem?_eq_some_iff.1 hC).1 (by omega)).trans hC,hz⟩,q1,h.own,q2⟩
theorem AI.res{vs:List Value}(h:AI w rb R g cc dd t I u)(hY:Y=u.setCells (w.heap.size+2) 0 vs):AI w rb R g cc dd t I Y:=by
 have hb:But (·=w.heap.size+2) u Y:=by rw[hY];exact(But.refl (·=w.heap.size+2) u).cells (fun _=>rfl) _ _
 obtain⟨C,hC,hz⟩:=h.br
 obtain⟨q1,q2⟩:=h.bfar (w.heap.size+2) (by omega) hb
 exact⟨(hb.block _ (Array.getElem?_eq_some_iff.1 h.bt).1 (by omega)).trans h.bt,(hb.block _ (Array.getElem?_eq_some_iff.1 h.bi).1 (by omega)).trans h.bi,⟨_,by rw[hY];exact block_setCells vs 0 u _ hC,by rw[setL_size];exact hz⟩,q1,h.own,q2⟩
theorem AI.ra(h:AI w rb R g cc dd t I u):u.rangeAt (w.heap.size+1) 3 (opL' I.a):=range_in13 h.bi 3 _ rfl
end
def LG(w:World)(T:Sta)(u u':World):Prop:=u.heap[w.heap.size+2]?=some (.cells (staL T).toArray 29 (0,0))→u'.heap[w.heap.size+2]?=some (.cells (staL T).toArray 29 (0,0))
theorem LG.below{w:World}{T:Sta}{u u':World}(hb:Below u.heap.size u u'):LG w T u u':=fun h=>(hb.block _ (Array.getElem?_eq_some_iff.1 h).1).trans h
end Go.Proofs.YtmdncgfheeijaaaGreat
