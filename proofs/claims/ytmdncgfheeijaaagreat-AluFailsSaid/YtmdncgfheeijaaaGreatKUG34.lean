import Derived.Deep.DeepCutAuto
import Derived.Laws.AppendOwn
import Derived.Laws.OwnMore
import Derived.Below
import Derived.BigQuiet
import Derived.Deep.QuietTactic
import Derived.Test.YtmdncgfheeijaaaGreatKUG17
namespace Go.Proofs.YtmdncgfheeijaaaGreat
open Go.ChangeShapes Go.WideShapes Go.ChangeAt Go.RowKit
set_option maxRecDepth 100000
def opL(o:Opd):List Value:=[.int .i64 o.kind,.int .i64 o.reg,.int .i64 o.base,.int .i64 o.index,.int .i64 o.scale,.int .u32 o.disp]
def rowL(l:List Opd):List Value:=l.flatMap opL
theorem rowL_snoc(l:List Opd)(o:Opd):rowL (l++[o])=rowL l++opL o:=by
 unfold rowL
 rw[List.flatMap_append]
 simp
theorem info_opd:(Tryz.prog.info? 32).map (fun i=>(i.zero.map (·.cells.size),i.size,i.bytes))=some (some 6,6,48):=by kernel_rfl
def OwnO(w:World)(base:Nat)(v:Value)(l:List Opd):Prop:=w.ownsRow base 32 6 v l.length (rowL l)
theorem OwnO.nil(w:World)(base:Nat):OwnO w base (.slice none 0 0) []:=World.ownsRow_nil w base _ 6
theorem OwnO.below{w w':World}{base:Nat}{v:Value}{l:List Opd}(h:OwnO w base v l)(hb:Below w.heap.size w w'):OwnO w' base v l:=by
 obtain⟨h1,h2⟩:=h
 refine⟨h1,?_⟩
 rcases h2 with h2|⟨g,cap,cur,e1,e2,e3,e4⟩
 ·exact .inl h2
 ·refine .inr ⟨g,cap,cur,e1,e2,?_,e4⟩
  rw[hb.block g (Array.getElem?_eq_some_iff.1 e3).1]
  exact e3
theorem OwnO.ge{w:World}{base:Nat}{v:Value}{l:List Opd}(h:OwnO w base v l)(k:Nat)(hk:v.ownBlock=some k):base≤k:=(World.ownsRow.lt h k hk).1
theorem append_opd{w:World}{ops:Array Oper}{rest:List Oper}{o:Oper}{a:Act}{Q:Exit→Act→World→Prop}(hg:o.guard=none)(s x:Operand)
  (hop:o.op=Op.call { callee:=Callee.builtin Builtin.append,args:=#[s,x],argTypes:=#[106,106] })
  (base:Nat) (v:Value) (l:List Opd) (hs:a.eval s=v) (hown:OwnO w base v l) (B:Nat) (q:Opd) (hx:a.eval x=.slice (some ⟨B,0,none⟩) 1 1)
  (h0:w.cell? ⟨B,0,none⟩=some (.int .i64 q.kind)) (h1:w.cell? ⟨B,1,none⟩=some (.int .i64 q.reg)) (h2:w.cell? ⟨B,2,none⟩=some (.int .i64 q.base)) (h3:w.cell? ⟨B,3,none⟩=some (.int .i64 q.index)) (h4:w.cell? ⟨B,4,none⟩=some (.int .i64 q.scale)) (h5:w.cell? ⟨B,5,none⟩=some (.int .u32 q.disp))
  (hn:l.length≤1000) (hb:base≤w.heap.size)
  (hK:∀v' w',OwnO w' base v' (l++[q])→(∀W n,n≤base→Below n W w→n≤w.heap.size→Below n W w')→wpList Tryz.prog ops Q rest (a.put o.dst v') w'):wpList Tryz.prog ops Q (o :: rest) a w:=by
 obtain⟨i0,hi,hz,hsz,hby⟩:∃i0,Tryz.prog.info? 32=some i0∧i0.zero.map (·.cells.size)=some 6∧i0.size=6∧i0.bytes=48:=by
  have h:=info_opd
  cases hi:Tryz.prog.info? 32 with
  |none=>rw[hi]at h;cases h
  |some i0=>
   rw[hi]at h
   simp only[Option.map_some,Option.some.injEq,Prod.mk.injEq]at h
   exact⟨i0,rfl,h.1,h.2.1,h.2.2⟩
 obtain⟨z,hz0,hz1⟩:∃z,i0.zero=some z∧z.cells.size=6:=by
  cases hzz:i0.zero with
  |none=>rw[hzz]at hz;cases hz
  |some z=>rw[hzz]at hz;exact⟨z,rfl,by simpa using hz⟩
 refine wpList_append_own w hg s x 106 hop base 32 i0 z 6 48 Tryz.underlying106 hi hz0 hsz hby hz1 (by decide) v l.length (rowL l) hs hown ⟨B,0,none⟩ 1 1 (opL q) hx rfl ?_ ?_ (by unfold maxLen;omega) (by omega) hb ?_
 ·intro j u hj
  have hj6:j<6:=(List.getElem?_eq_some_iff.1 hj).1
  rw[addr_add,Nat.zero_add]
  have hc:j=0∨j=1∨j=2∨j=3∨j=4∨j=5:=by omega
  rcases hc with rfl|rfl|rfl|rfl|rfl|rfl
  all_goals
   cases hj
   assumption
 ·intro u hu
  unfold opL at hu
  simp only[List.mem_cons,List.not_mem_nil,or_false]at hu
  rcases hu with rfl|rfl|rfl|rfl|rfl|rfl<;>rfl
 ·intro v' w' ho hgr _
  refine hK v' w' ?_ ?_
  ·unfold OwnO
   rw[rowL_snoc,List.length_append]
   exact ho
  ·intro W n hnb hW hnw
   exact hW.grown hgr hnw (fun k hk=>Nat.le_trans hnb (OwnO.ge hown k hk))
theorem add_add'(ad:Addr)(k j:Nat):(ad.add k).add j=ad.add (k+j):=by
 unfold Addr.add
 by_cases hk:k=0
 ·subst hk;simp
 ·by_cases hj:j=0
  ·subst hj;simp[hk]
  ·rw[if_neg hk,if_neg hj,if_neg (by omega)]
   simp[Nat.add_assoc]
theorem slice_rest(ad:Addr)(L cap k:Nat)(h1:k<L)(h2:L≤cap)(w:World):
  (Instr.sliceAt 37 (.slice (some ad) L cap) (some (.int .i64 (k:Int))) none none).run Tryz.prog w=.ok (.slice (some (ad.add k)) (L-k) (cap-k)) w:=by
 have hE:Tryz.prog.elem 37=5:=by kernel_rfl
 have hz:(sizeOf (Tryz.prog.elem 37)).run Tryz.prog w=.ok 1 w:=by kernel_rfl
 have hu:Tryz.prog.underlying 37=some (.slice (Tryz.prog.elem 37)):=by rw[hE];exact Tryz.underlying37
 rw[run_sliceAt_slice w _ _ _ _ _ hu,run_slice_l w _ _ _ _ hu .i64 (k:Int) (by omega) (by omega),hz]
 simp only[Result.andThen,sliced,Option.map_some,Nat.mul_one,Int.toNat_natCast]
 rw[if_neg (by omega)]
abbrev ZL:List Value:=[.int .i64 0,.int .i64 0,.int .i64 0,.int .i64 0,.int .i64 0,.int .i64 0,.int .i64 0,.int .i64 0,.int .u32 0,.int .i64 0,.int .i64 0,.int .i64 0,.int .i64 0,.int .i64 0,.int .u32 0,.int .u32 0,.bool false,.int .i64 0]
theorem at_slice{u:World}{a:Option Addr}{L cap:Nat}{bs:Nat→Int}(h:Slc .u8 u (.slice a L cap) L bs)(h0:0<L):∃ad,a=some ad∧L≤cap∧∀i,i<L→u.cell? (ad.add i)=some (.int .u8 (bs i)):=by
 rcases h with⟨_,h1⟩|⟨ad,c,he,hl,hc⟩
 ·omega
 ·injection he with h1 h2 h3
  subst h1 h3
  exact⟨ad,rfl,hl,hc⟩
theorem heap_low(w:World)(o:Obj)(B:Nat)(h:B<w.heap.size):(w.alloc o).heap[B]?=w.heap[B]?:=by show(w.heap.push o)[B]?=_;rw[Array.getElem?_push,if_neg (by omega)]
theorem own_cons{u:World}{base:Nat}{v:Value}{o:Opd}{l:List Opd}(h:OwnO u base v (o :: l)):∃G cap,v=.slice (some ⟨G,0,none⟩) (l.length+1) cap∧base≤G∧u.rangeAt G 0 (rowL (o :: l)):=by
 rcases h.2 with⟨_,h1⟩|⟨g,cap,cur,h1,h2,h3,_,_,_,h4⟩
 ·simp at h1
 ·refine⟨g,cap,h1,h2,fun j x hj=>?_⟩
  rw[Nat.zero_add,(cell_block h3 j).1]
  rw[←h4,List.getElem?_take]at hj
  split at hj
  ·simpa using hj
  ·cases hj
theorem range_first{u:World}{G:Nat}{o:Opd}{l:List Opd}(h:u.rangeAt G 0 (rowL (o :: l))):u.rangeAt G 0 (opL o):=fun j x hj=>h j x (by
 show(opL o++rowL l)[j]?=some x
 rw[List.getElem?_append_left (List.getElem?_eq_some_iff.1 hj).1]
 exact hj)
theorem range_next{u:World}{G:Nat}{o q:Opd}{l:List Opd}(h:u.rangeAt G 0 (rowL (o :: q :: l))):u.rangeAt G 6 (opL q):=fun j x hj=>by
 have hj6:j<6:=(List.getElem?_eq_some_iff.1 hj).1
 have:=h (6+j) x (by
  show(opL o++(opL q++rowL l))[6+j]?=some x
  rw[List.getElem?_append_right (by show 6≤6+j;omega),show 6+j-(opL o).length=j by show 6+j-6=j;omega,List.getElem?_append_left (by show j<6;omega)]
  exact hj)
 rwa[Nat.zero_add]at this
theorem own_nil{u:World}{base:Nat}{v:Value}(h:OwnO u base v []):∃a c,v=.slice a 0 c:=by
 rcases h.2 with⟨h1,_⟩|⟨g,cap,cur,h1,_⟩
 ·exact⟨_,_,h1⟩
 ·exact⟨_,_,h1⟩
theorem heap_top(w:World)(o:Obj)(B:Nat)(h:B=w.heap.size):(w.alloc o).heap[B]?=some o:=by subst h;show(w.heap.push o)[w.heap.size]?=_;simp
theorem below_drN{B:Nat}{a w:World}(h:Below B a w)(n:Nat):Below B a (w.drewN n):=⟨h.os,h.tape,h.output,h.size,h.block⟩
def madeW(w:World)(i:Ins)(f:Frm)(s:ByteArray)(rm:Opd)(C:Int):World:=
 (((w.alloc (.cells #[.int .i64 i.op,.int .i64 i.cond,.int .i64 i.size,.int .i64 i.a.kind,.int .i64 i.a.reg,.int .i64 i.a.base,.int .i64 i.a.index,.int .i64 i.a.scale,.int .u32 i.a.disp,.int .i64 i.b.kind,.int .i64 i.b.reg,.int .i64 i.b.base,.int .i64 i.b.index,.int .i64 i.b.scale,.int .u32 i.b.disp,.int .u32 C,.bool i.rep,.int .i64 i.len] 34)).alloc
  (.cells #[.int .i64 f.op,.int .i64 f.cond,.int .i64 f.size,.string s,.int .i64 f.c] 63)).alloc
  (.cells #[.int .i64 rm.kind,.int .i64 rm.reg,.int .i64 rm.base,.int .i64 rm.index,.int .i64 rm.scale,.int .u32 rm.disp] 32)).alloc
  (.cells #[.int .i64 0,.int .i64 0,.int .i64 0,.int .i64 0,.int .i64 0,.int .i64 0,.int .i64 0,.int .i64 0,.int .u32 0,.int .i64 0,.int .i64 0,.int .i64 0,.int .i64 0,.int .i64 0,.int .u32 0,.int .u32 0,.bool false,.int .i64 0] 34)
theorem madeW_size(w:World)(i:Ins)(f:Frm)(s:ByteArray)(rm:Opd)(C:Int):(madeW w i f s rm C).heap.size=w.heap.size+4:=by unfold madeW;simp[go_sem]
structure MI (w:World) (i:Ins) (f:Frm) (s:ByteArray) (rm:Opd) (l:List Opd) (C:Int) (v:Value) (u:World):Prop where
 own:OwnO u (w.heap.size+4) v l
 below:Below (w.heap.size+4) (madeW w i f s rm C) u
theorem MI.size{w:World}{i:Ins}{f:Frm}{s:ByteArray}{rm:Opd}{l:List Opd}{C:Int}{v:Value}{u:World}(h:MI w i f s rm l C v u):w.heap.size+4≤u.heap.size:=by
 have:=h.below.size
 rwa[madeW_size]at this
theorem MI.cell{w:World}{i:Ins}{f:Frm}{s:ByteArray}{rm:Opd}{l:List Opd}{C:Int}{v:Value}{u:World}(h:MI w i f s rm l C v u)(j o:Nat)(hj:j<4):u.cell? ⟨w.heap.size+j,o,none⟩=(madeW w i f s rm C).cell? ⟨w.heap.size+j,o,none⟩:=h.below.cell (by simp;omega)
theorem MI.froz{w:World}{i:Ins}{f:Frm}{s:ByteArray}{rm:Opd}{l:List Opd}{C:Int}{v:Value}{u:World}(h:MI w i f s rm l C v u)(j o:Nat)(hj:j<4):u.frozen? ⟨w.heap.size+j,o,none⟩=(madeW w i f s rm C).frozen? ⟨w.heap.size+j,o,none⟩:=h.below.frozen (by simp;omega)
theorem MI.all{w:World}{i:Ins}{f:Frm}{s:ByteArray}{rm:Opd}{l:List Opd}{C:Int}{v:Value}{u:World}(h:MI w i f s rm l C v u):Below w.heap.size w u:=by
 have h1:Below w.heap.size w (madeW w i f s rm C):=below_last (below_last (below_last (below_last (Below.refl _ _) _) _) _) _
 exact h1.trans (h.below.mono (by omega))
theorem MI.push{w:World}{i:Ins}{f:Frm}{s:ByteArray}{rm:Opd}{l:List Opd}{C:Int}{v:Value}{u u1 u2:World}(h:MI w i f s rm l C v u)(hb:Below u.heap.size u u1){l':List Opd}{v':Value}(ho:OwnO u2 (w.heap.size+4) v' l')(hk:∀W n,n≤w.heap.size+4→Below n W u1→n≤u1.heap.size→Below n W u2):MI w i f s rm l' C v' u2:=
 ⟨ho,hk _ _ (Nat.le_refl _) (h.below.trans (hb.mono h.size)) (Nat.le_trans h.size hb.size)⟩
theorem MI.dr{w:World}{i:Ins}{f:Frm}{s:ByteArray}{rm:Opd}{l:List Opd}{C:Int}{v:Value}{u:World}(h:MI w i f s rm l C v u)(n:Nat):MI w i f s rm l C v (u.drewN n):=
 ⟨h.own.below (below_drN (Below.refl _ _) n),below_drN h.below n⟩
theorem MI.setC{w:World}{i:Ins}{f:Frm}{s:ByteArray}{rm:Opd}{l:List Opd}{C:Int}{v:Value}{u:World}(h:MI w i f s rm l C v u)(C':Int):MI w i f s rm l C' v (u.setCell ⟨w.heap.size,15,none⟩ (.int .u32 C')):=by
 refine⟨ownsRow_setCell_below h.own (by simp) _,⟨h.below.os,h.below.tape,h.below.output,?_,fun k hk=>?_⟩⟩
 ·have:=h.below.size
  rw[madeW_size]at this ⊢
  simpa[World.setCell]using this
 ·have hu:=h.below.block k hk
  have hm:(u.setCell ⟨w.heap.size,15,none⟩ (.int .u32 C')).heap[k]?=((madeW w i f s rm C).setCell ⟨w.heap.size,15,none⟩ (.int .u32 C')).heap[k]?:=by
   unfold World.setCell
   simp only[Array.getElem?_modify]
   rw[hu]
  rw[hm]
  have e:(madeW w i f s rm C).setCell ⟨w.heap.size,15,none⟩ (.int .u32 C')=madeW w i f s rm C':=by
   unfold madeW
   simp[go_sem]
  rw[e]
end Go.Proofs.YtmdncgfheeijaaaGreat
