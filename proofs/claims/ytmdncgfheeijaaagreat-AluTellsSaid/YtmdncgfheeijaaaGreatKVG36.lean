import Derived.Deep.DeepCutAuto
import Derived.Laws.AppendOwn
import Derived.Laws.OwnMore
import Derived.Below
import Derived.BigQuiet
import Derived.Deep.QuietTactic
import Derived.Test.YtmdncgfheeijaaaGreatKVG17
namespace Go.Proofs.YtmdncgfheeijaaaGreat
open Go.ChangeShapes Go.WideShapes Go.ChangeAt Go.RowKit
set_option maxRecDepth 100000
def opL(o:Opd):List Value:=[.int .i64 o.kind,.int .i64 o.reg,.int .i64 o.base,.int .i64 o.index,.int .i64 o.scale,.int .u32 o.disp]
def rowL(l:List Opd):List Value:=l.flatMap opL
theorem rowL_snoc(l:List Opd)(o:Opd):rowL (l++[o])=rowL l++opL o:=by
 unfold rowL
 rw[List.flatMap_append]
 simp
theorem info_opd:(Tryz.prog.info? 32).map (fun i=>(i.zero.map (·.cells.size),i.size,i.bytes))=some (some 6,6,48):=by kernel_rfl
def OwnO(w:World)(base:Nat)(v:Value)(l:List Opd):Prop:=w.ownsRow base 32 6 v l.length (rowL l)
theorem OwnO.nil(w:World)(base:Nat):OwnO w base (.slice none 0 0) []:=World.ownsRow_nil w base _ 6
theorem OwnO.below{w w':World}{base:Nat}{v:Value}{l:List Opd}(h:OwnO w base v l)(hb:Below w.heap.size w w'):OwnO w' base v l:=by
 obtain⟨h1,h2⟩:=h
 refine⟨h1,?_⟩
 rcases h2 with h2|⟨g,cap,cur,e1,e2,e3,e4⟩
 ·exact .inl h2
 ·refine .inr ⟨g,cap,cur,e1,e2,?_,e4⟩
  rw[hb.block g (Array.getElem?_eq_some_iff.1 e3).1]
  exact e3
theorem OwnO.ge{w:World}{base:Nat}{v:Value}{l:List Opd}(h:OwnO w base v l)(k:Nat)(hk:v.ownBlock=some k):base≤k:=(World.ownsRow.lt h k hk).1
theorem append_opd{w:World}{ops:Array Oper}{rest:List Oper}{o:Oper}{a:Act}{Q:Exit→Act→World→Prop}(hg:o.guard=none)(s x:Operand)
  (hop:o.op=Op.call { callee:=Callee.builtin Builtin.append,args:=#[s,x],argTypes:=#[106,106] })
  (base:Nat) (v:Value) (l:List Opd) (hs:a.eval s=v) (hown:OwnO w base v l) (B:Nat) (q:Opd) (hx:a.eval x=.slice (some ⟨B,0,none⟩) 1 1)
  (h0:w.cell? ⟨B,0,none⟩=some (.int .i64 q.kind)) (h1:w.cell? ⟨B,1,none⟩=some (.int .i64 q.reg)) (h2:w.cell? ⟨B,2,none⟩=some (.int .i64 q.base)) (h3:w.cell? ⟨B,3,none⟩=some (.int .i64 q.index)) (h4:w.cell? ⟨B,4,none⟩=some (.int .i64 q.scale)) (h5:w.cell? ⟨B,5,none⟩=some (.int .u32 q.disp))
  (hn:l.length≤1000) (hb:base≤w.heap.size)
  (hK:∀v' w',OwnO w' base v' (l++[q])→(∀W n,n≤base→Below n W w→n≤w.heap.size→Below n W w')→wpList Tryz.prog ops Q rest (a.put o.dst v') w'):wpList Tryz.prog ops Q (o :: rest) a w:=by
 obtain⟨i0,hi,hz,hsz,hby⟩:∃i0,Tryz.prog.info? 32=some i0∧i0.zero.map (·.cells.size)=some 6∧i0.size=6∧i0.bytes=48:=by
  have h:=info_opd
  cases hi:Tryz.prog.info? 32 with
  |none=>rw[hi]at h;cases h
  |some i0=>
   rw[hi]at h
   simp only[Option.map_some,Option.some.injEq,Prod.mk.injEq]at h
   exact⟨i0,rfl,h.1,h.2.1,h.2.2⟩
 obtain⟨z,hz0,hz1⟩:∃z,i0.zero=some z∧z.cells.size=6:=by
  cases hzz:i0.zero with
  |none=>rw[hzz]at hz;cases hz
  |some z=>rw[hzz]at hz;exact⟨z,rfl,by simpa using hz⟩
 refine wpList_append_own w hg s x 106 hop base 32 i0 z 6 48 Tryz.underlying106 hi hz0 hsz hby hz1 (by decide) v l.length (rowL l) hs hown ⟨B,0,none⟩ 1 1 (opL q) hx rfl ?_ ?_ (by unfold maxLen;omega) (by omega) hb ?_
 ·intro j u hj
  have hj6:j<6:=(List.getElem?_eq_some_iff.1 hj).1
  rw[addr_add,Nat.zero_add]
  have hc:j=0∨j=1∨j=2∨j=3∨j=4∨j=5:=by omega
  rcases hc with rfl|rfl|rfl|rfl|rfl|rfl
  all_goals
   cases hj
   assumption
 ·intro u hu
  unfold opL at hu
  simp only[List.mem_cons,List.not_mem_nil,or_false]at hu
  rcases hu with rfl|rfl|rfl|rfl|rfl|rfl<;>rfl
 ·intro v' w' ho hgr _
  refine hK v' w' ?_ ?_
  ·unfold OwnO
   rw[rowL_snoc,List.length_append]
   exact ho
  ·intro W n hnb hW hnw
   exact hW.grown hgr hnw (fun k hk=>Nat.le_trans hnb (OwnO.ge hown k hk))
theorem add_add'(ad:Addr)(k j:Nat):(ad.add k).add j=ad.add (k+j):=by
 unfold Addr.add
 by_cases hk:k=0
 ·subst hk;simp
 ·by_cases hj:j=0
  ·subst hj;simp[hk]
  ·rw[if_neg hk,if_neg hj,if_neg (by omega)]
   simp[Nat.add_assoc]
theorem slice_rest(ad:Addr)(L cap k:Nat)(h1:k<L)(h2:L≤cap)(w:World):
  (Instr.sliceAt 37 (.slice (some ad) L cap) (some (.int .i64 (k:Int))) none none).run Tryz.prog w=.ok (.slice (some (ad.add k)) (L-k) (cap-k)) w:=by
 have hE:Tryz.prog.elem 37=5:=by kernel_rfl
 have hz:(sizeOf (Tryz.prog.elem 37)).run Tryz.prog w=.ok 1 w:=by kernel_rfl
 have hu:Tryz.prog.underlying 37=some (.slice (Tryz.prog.elem 37)):=by rw[hE];exact Tryz.underlying37
 rw[run_sliceAt_slice w _ _ _ _ _ hu,run_slice_l w _ _ _ _ hu .i64 (k:Int) (by omega) (by omega),hz]
 simp only[Result.andThen,sliced,Option.map_some,Nat.mul_one,Int.toNat_natCast]
 rw[if_neg (by omega)]
abbrev ZL:List Value:=[.int .i64 0,.int .i64 0,.int .i64 0,.int .i64 0,.int .i64 0,.int .i64 0,.int .i64 0,.int .i64 0,.int .u32 0,.int .i64 0,.int .i64 0,.int .i64 0,.int .i64 0,.int .i64 0,.int .u32 0,.int .u32 0,.bool false,.int .i64 0]
theorem at_slice{u:World}{a:Option Addr}{L cap:Nat}{bs:Nat→Int}(h:Slc .u8 u (.slice a L cap) L bs)(h0:0<L):∃ad,a=some ad∧L≤cap∧∀i,i<L→u.cell? (ad.add i)=some (.int .u8 (bs i)):=by
 rcases h with⟨_,h1⟩|⟨ad,c,he,hl,hc⟩
 ·omega
 ·injection he with h1 h2 h3
  subst h1 h3
  exact⟨ad,rfl,hl,hc⟩
theorem heap_low(w:World)(o:Obj)(B:Nat)(h:B<w.heap.size):(w.alloc o).heap[B]?=w.heap[B]?:=by show(w.heap.push o)[B]?=_;rw[Array.getElem?_push,if_neg (by omega)]
theorem own_cons{u:World}{base:Nat}{v:Value}{o:Opd}{l:List Opd}(h:OwnO u base v (o :: l)):∃G cap,v=.slice (some ⟨G,0,none⟩) (l.length+1) cap∧base≤G∧u.rangeAt G 0 (rowL (o :: l)):=by
 rcases h.2 with⟨_,h1⟩|⟨g,cap,cur,h1,h2,h3,_,_,_,h4⟩
 ·simp at h1
 ·refine⟨g,cap,h1,h2,fun j x hj=>?_⟩
  rw[Nat.zero_add,(cell_block h3 j).1]
  rw[←h4,List.getElem?_take]at hj
  split at hj
  ·simpa using hj
  ·cases hj
theorem range_first{u:World}{G:Nat}{o:Opd}{l:List Opd}(h:u.rangeAt G 0 (rowL (o :: l))):u.rangeAt G 0 (opL o):=fun j x hj=>h j x (by
 show(opL o++rowL l)[j]?=some x
 rw[List.getElem?_append_left (List.getElem?_eq_some_iff.1 hj).1]
 exact hj)
theorem range_next{u:World}{G:Nat}{o q:Opd}{l:List Opd}(h:u.rangeAt G 0 (rowL (o :: q :: l))):u.rangeAt G 6 (opL q):=fun j x hj=>by
 have hj6:j<6:=(List.getElem?_eq_some_iff.1 hj).1
 have:=h (6+j) x (by
  show(opL o++(opL q++rowL l))[6+j]?=some x
  rw[List.getElem?_append_right (by show 6≤6+j;omega),show 6+j-(opL o).length=j by show 6+j-6=j;omega,List.getElem?_append_left (by show j<6;omega)]
  exact hj)
 rwa[Nat.zero_add]at this
theorem own_nil{u:World}{base:Nat}{v:Value}(h:OwnO u base v []):∃a c,v=.slice a 0 c:=by
 rcases h.2 with⟨h1,_⟩|⟨g,cap,cur,h1,_⟩
 ·exact⟨_,_,h1⟩
 ·exact⟨_,_,h1⟩
theorem heap_top(w:World)(o:Obj)(B:Nat)(h:B=w.heap.size):(w.alloc o).heap[B]?=some o:=by subst h;show(w.heap.push o)[w.heap.size]?=_;simp
theorem below_drN{B:Nat}{a w:World}(h:Below B a w)(n:Nat):Below B a (w.drewN n):=⟨h.os,h.tape,h.output,h.size,h.block⟩
def madeW(w:World)(i:Ins)(f:Frm)(s:ByteArray)(rm:Opd)(C:Int):World:=
 (((w.alloc (.cells #[.int .i64 i.op,.int .i64 i.cond,.int .i64 i.size,.int .i64 i.a.kind,.int .i64 i.a.reg,.int .i64 i.a.base,.int .i64 i.a.index,.int .i64 i.a.scale,.int .u32 i.a.disp,.int .i64 i.b.kind,.int .i64 i.b.reg,.int .i64 i.b.base,.int .i64 i.b.index,.int .i64 i.b.scale,.int .u32 i.b.disp,.int .u32 C,.bool i.rep,.int .i64 i.len] 34)).alloc
  (.cells #[.int .i64 f.op,.int .i64 f.cond,.int .i64 f.size,.string s,.int .i64 f.c] 63)).alloc
  (.cells #[.int .i64 rm.kind,.int .i64 rm.reg,.int .i64 rm.base,.int .i64 rm.index,.int .i64 rm.scale,.int .u32 rm.disp] 32)).alloc
  (.cells #[.int .i64 0,.int .i64 0,.int .i64 0,.int .i64 0,.int .i64 0,.int .i64 0,.int .i64 0,.int .i64 0,.int .u32 0,.int .i64 0,.int .i64 0,.int .i64 0,.int .i64 0,.int .i64 0,.int .u32 0,.int .u32 0,.bool false,.int .i64 0] 34)
theorem madeW_size(w:World)(i:Ins)(f:Frm)(s:ByteArray)(rm:Opd)(C:Int):(madeW w i f s rm C).heap.size=w.heap.size+4:=by unfold madeW;simp[go_sem]
structure MI (w:World) (i:Ins) (f:Frm) (s:ByteArray) (rm:Opd) (l:List Opd) (C:Int) (v:Value) (u:World):Prop where
 own:OwnO u (w.heap.size+4) v l
 below:Below (w.heap.size+4) (madeW w i f s rm C) u
theorem MI.size{w:World}{i:Ins}{f:Frm}{s:ByteArray}{rm:Opd}{l:List Opd}{C:Int}{v:Value}{u:World}(h:MI w i f s rm l C v u):w.heap.size+4≤u.heap.size:=by
 have:=h.below.size
 rwa[madeW_size]at this
theorem MI.cell{w:World}{i:Ins}{f:Frm}{s:ByteArray}{rm:Opd}{l:List Opd}{C:Int}{v:Value}{u:World}(h:MI w i f s rm l C v u)(j o:Nat)(hj:j<4):u.cell? ⟨w.heap.size+j,o,none⟩=(madeW w i f s rm C).cell? ⟨w.heap.size+j,o,none⟩:=h.below.cell (by simp;omega)
theorem MI.froz{w:World}{i:Ins}{f:Frm}{s:ByteArray}{rm:Opd}{l:List Opd}{C:Int}{v:Value}{u:World}(h:MI w i f s rm l C v u)(j o:Nat)(hj:j<4):u.frozen? ⟨w.heap.size+j,o,none⟩=(madeW w i f s rm C).frozen? ⟨w.heap.size+j,o,none⟩:=h.below.frozen (by simp;omega)
theorem MI.all{w:World}{i:Ins}{f:Frm}{s:ByteArray}{rm:Opd}{l:List Opd}{C:Int}{v:Value}{u:World}(h:MI w i f s rm l C v u):Below w.heap.size w u:=by
 have h1:Below w.heap.size w (madeW w i f s rm C):=below_last (below_last (below_last (below_last (Below.refl _ _) _) _) _) _
 exact h1.trans (h.below.mono (by omega))
theorem MI.push{w:World}{i:Ins}{f:Frm}{s:ByteArray}{rm:Opd}{l:List Opd}{C:Int}{v:Value}{u u1 u2:World}(h:MI w i f s rm l C v u)(hb:Below u.heap.size u u1){l':List Opd}{v':Value}(ho:OwnO u2 (w.heap.size+4) v' l')(hk:∀W n,n≤w.heap.size+4→Below n W u1→n≤u1.heap.size→Below n W u2):MI w i f s rm l' C v' u2:=
 ⟨ho,hk _ _ (Nat.le_refl _) (h.below.trans (hb.mono h.size)) (Nat.le_trans h.size hb.size)⟩
theorem MI.dr{w:World}{i:Ins}{f:Frm}{s:ByteArray}{rm:Opd}{l:List Opd}{C:Int}{v:Value}{u:World}(h:MI w i f s rm l C v u)(n:Nat):MI w i f s rm l C v (u.drewN n):=
 ⟨h.own.below (below_drN (Below.refl _ _) n),below_drN h.below n⟩
theorem MI.setC{w:World}{i:Ins}{f:Frm}{s:ByteArray}{rm:Opd}{l:List Opd}{C:Int}{v:Value}{u:World}(h:MI w i f s rm l C v u)(C':Int):MI w i f s rm l C' v (u.setCell ⟨w.heap.size,15,none⟩ (.int .u32 C')):=by
 refine⟨ownsRow_setCell_below h.own (by simp) _,⟨h.below.os,h.below.tape,h.below.output,?_,fun k hk=>?_⟩⟩
 ·have:=h.below.size
  rw[madeW_size]at this ⊢
  simpa[World.setCell]using this
 ·have hu:=h.below.block k hk
  have hm:(u.setCell ⟨w.heap.size,15,none⟩ (.int .u32 C')).heap[k]?=((madeW w i f s rm C).setCell ⟨w.heap.size,15,none⟩ (.int .u32 C')).heap[k]?:=by
   unfold World.setCell
   simp only[Array.getElem?_modify]
   rw[hu]
  rw[hm]
  have e:(madeW w i f s rm C).setCell ⟨w.heap.size,15,none⟩ (.int .u32 C')=madeW w i f s rm C':=by
   unfold madeW
   simp[go_sem]
  rw[e]
structure EX (w:World) (J:Ins) (u:World):Prop where
 hb:u.heap[w.heap.size]?=some (.cells (insC J) 34 (0,0))
 hr:u.heap[w.heap.size+1+1+1]?=some (.cells zeroA 34 (0,0))
 hl:Below w.heap.size w u
theorem setL_a(J:Ins)(q:Opd):setL (insC J) 3 (opL q)=insC { J with a:=q }:=by kernel_rfl
theorem setL_b(J:Ins)(q:Opd):setL (insC J) 9 (opL q)=insC { J with b:=q }:=by kernel_rfl
theorem EX.put{w:World}{J J':Ins}{u:World}(h:EX w J u)(o:Nat)(vs:List Value)(e:setL (insC J) o vs=insC J'):EX w J' (u.setCells w.heap.size o vs):=
 ⟨by rw[block_setCells _ o _ _ h.hb,e],by rw[other_setCells (by omega)];exact h.hr,below_setCells (Nat.le_refl _) _ _ _ h.hl⟩
theorem EX.ends{w:World}{J:Ins}{u:World}(h:EX w J u)(m:Int):∃Y,(u.setCell ⟨w.heap.size,17,none⟩ (.int .i64 m)).setCells (w.heap.size+1+1+1) 0 (insL { J with len:=m })=Y∧(u.setCell ⟨w.heap.size,17,none⟩ (.int .i64 m)).rangeAt w.heap.size 0 (insL { J with len:=m })∧(u.setCell ⟨w.heap.size,17,none⟩ (.int .i64 m)).there (w.heap.size+1+1+1) 0 18∧(loadVar 34 ⟨w.heap.size+1+1+1,0,none⟩).run Tryz.prog Y=.ok (insV { J with len:=m }) Y∧Below w.heap.size w Y:=by
 have h1:=block_setCell h.hb 17 (.int .i64 m)
 have h2:=there_block ((other_setCell (show w.heap.size+1+1+1≠w.heap.size by omega) 17 (.int .i64 m)).trans h.hr) 0 18 (by decide)
 exact⟨_,rfl,range_block (C:=insC { J with len:=m }) h1,h2,load_ins (World.rangeAt_setCells_same _ _ 0 _ h2),below_setCells (by omega) _ _ _ (h.hl.setCell (Nat.le_refl _) _)⟩
theorem EX.st{w:World}{J:Ins}{u:World}{ops:Array Oper}{rest:List Oper}{o:Oper}{a:Act}{Q:Exit→Act→World→Prop}(hgd:o.guard=none)(x y:Operand)(ho:o.op=.store 32 x y)(off:Nat)(hx:a.eval x=.pointer (some ⟨w.heap.size,off,none⟩))(q:Opd)(hy:a.eval y=.agg (opL q).toArray)(J':Ins)(e:setL (insC J) off (opL q)=insC J')(h18:off+6≤18)(h:EX w J u)
  (hK:∀Y,EX w J' Y→(∀G k l,w.heap.size<G→u.rangeAt G k l→Y.rangeAt G k l)→wpList Tryz.prog ops Q rest (a.put o.dst undef) Y):wpList Tryz.prog ops Q (o :: rest) a u:=
 wpList_store_mid hgd _ x y ho w.heap.size off (opL q).toArray hx hy (there_block h.hb off 6 h18) info_opd1 (by simp[opL,Value.oneCell']) (hK _ (h.put off (opL q) e) fun G k l hG hr=>World.rangeAt_setCells_apart hr _ _ _ (.inl (by omega)))
theorem EX.ld{w:World}{J:Ins}{u:World}(h:EX w J u)(m:Int):(u.setCell ⟨w.heap.size,17,none⟩ (.int .i64 m)).rangeAt w.heap.size 0 (insL { J with len:=m }):=range_block (C:=insC { J with len:=m }) (block_setCell h.hb 17 (.int .i64 m))
theorem EX.th{w:World}{J:Ins}{u:World}(h:EX w J u)(m:Int):(u.setCell ⟨w.heap.size,17,none⟩ (.int .i64 m)).there (w.heap.size+1+1+1) 0 18:=there_block ((other_setCell (show w.heap.size+1+1+1≠w.heap.size by omega) 17 (.int .i64 m)).trans h.hr) 0 18 (by decide)
theorem EX.bl{w:World}{J:Ins}{u:World}(h:EX w J u)(m:Int):Below w.heap.size w (u.setCell ⟨w.heap.size,17,none⟩ (.int .i64 m)):=h.hl.setCell (Nat.le_refl _) _
theorem EX.c17{w:World}{J:Ins}{u:World}(h:EX w J u):u.cell? ⟨w.heap.size,17,none⟩=some (.int .i64 J.len)∧u.frozen? ⟨w.heap.size,17,none⟩=false:=cell_block h.hb 17
set_option maxHeartbeats 4000000
theorem rmade_1(i:Ins)(f:Frm)(rm:Opd)(reg:Int)(v:Value)(L:Nat)(bs:Nat→Int)(k0:Nat)(hb:∀i,0≤bs i∧bs i<256)(w:World)(hs:Slc .u8 w v L bs)(hL:L≤1099511627776)(hk0:k0≤L)(hh:f.how.length≤100)(hz:∀c,c∈f.how→c=69∨c=71∨c=103∨c=101∨c=88∨c=89):
  Calls Tryz.prog 26 #[insV i,frmV f,opV rm,.int .i64 reg,v,.int .i64 (k0:Int)] w fun e w'=>e=.returned (insR (madeF i f rm reg L bs k0))∧Below w.heap.size w w':=by
 obtain⟨a,cap,rfl⟩:=hs.len
 have HS:=Lib.hid hs
 have HB:=Lib.hid hb
 obtain⟨s,hs'⟩:∃s:ByteArray,s=⟨f.how.toArray⟩:=⟨_,rfl⟩
 have hN:s.size=f.how.length:=by rw[hs'];show f.how.toArray.size=_;simp
 have HN:=Lib.hid hN
 have HZL:=Lib.hid hz
 clear hz
 have HSS:=Lib.hid hs'
 rw[←hN]at hh
 clear hs hb hN
 unfold insV insC frmV opV
 rw[←hs']
 clear hs'
 go_enter Tryz.func26,Tryz.ntmps26
 go_wp2
 go_loopw [5,14,15] (fun v5 v14 v15 u=>∃(k:Nat) (t:Mst),k≤s.size∧v15=.int .i64 k∧runM f rm reg L bs (f.how.take k) ⟨[],i.c,k0⟩=some t∧v5=.int .i64 (t.at_:Int)∧t.at_≤L∧t.l.length≤k∧MI w i f s rm t.l t.c v14 u) (fun _ _ v15 _=>s.size-(intOf v15).toNat)
 case atStart=>exact⟨0,⟨[],i.c,k0⟩,Nat.zero_le _,rfl,rfl,rfl,hk0,Nat.le_refl _,OwnO.nil _ _,Below.refl _ _⟩
 case round=>
  obtain⟨k,t,hkN,rfl,hrun,rfl,hat,hlk,hmi⟩:=hrel
  obtain⟨l,C,at_⟩:=t
  replace hat:at_≤L:=hat
  replace hlk:l.length≤k:=hlk
  replace hmi:MI w i f s rm l C u14 wr:=hmi
  have HMI:=Lib.hid hmi
  have HOWN:=Lib.hid hmi.own
  have hus:=hmi.size
  have HRUN:=Lib.hid hrun
  have f2:wr.cell? ⟨w.heap.size+1,2,none⟩=some (.int .i64 f.size):=by rw[hmi.cell 1 2 (by decide)];unfold madeW;simp[go_sem]
  have f3:wr.cell? ⟨w.heap.size+1,3,none⟩=some (.string s):=by rw[hmi.cell 1 3 (by decide)];unfold madeW;simp[go_sem]
  have f4:wr.cell? ⟨w.heap.size+1,4,none⟩=some (.int .i64 f.c):=by rw[hmi.cell 1 4 (by decide)];unfold madeW;simp[go_sem]
  have r0:wr.cell? ⟨w.heap.size+2,0,none⟩=some (.int .i64 rm.kind):=by rw[hmi.cell 2 0 (by decide)];unfold madeW;simp[go_sem]
  have r1:wr.cell? ⟨w.heap.size+2,1,none⟩=some (.int .i64 rm.reg):=by rw[hmi.cell 2 1 (by decide)];unfold madeW;simp[go_sem]
  have r2:wr.cell? ⟨w.heap.size+2,2,none⟩=some (.int .i64 rm.base):=by rw[hmi.cell 2 2 (by decide)];unfold madeW;simp[go_sem]
  have r3:wr.cell? ⟨w.heap.size+2,3,none⟩=some (.int .i64 rm.index):=by rw[hmi.cell 2 3 (by decide)];unfold madeW;simp[go_sem]
  have r4:wr.cell? ⟨w.heap.size+2,4,none⟩=some (.int .i64 rm.scale):=by rw[hmi.cell 2 4 (by decide)];unfold madeW;simp[go_sem]
  have r5:wr.cell? ⟨w.heap.size+2,5,none⟩=some (.int .u32 rm.disp):=by rw[hmi.cell 2 5 (by decide)];unfold madeW;simp[go_sem]
  by_cases hlt:k<s.size
  ·have hkl:k<f.how.length:=by rw[←HN.out];exact hlt
   have hget:f.how[k]=s[k]:=by have:=HSS.out;subst this;rfl
   have HRL:=Lib.hid (show runM f rm reg L bs (f.how.take (k+1)) ⟨[],i.c,k0⟩=stepM f rm reg L bs ⟨l,C,at_⟩ s[k]by rw[runM_snoc f rm reg L bs f.how k hkl _ _ hrun,hget])
   have HGET:=Lib.hid hget
   have c15:wr.cell? ⟨w.heap.size,15,none⟩=some (.int .u32 C):=by rw[←Nat.add_zero w.heap.size,hmi.cell 0 15 (by decide)];unfold madeW;simp[go_sem]
   have z15:wr.frozen? ⟨w.heap.size,15,none⟩=false:=by rw[←Nat.add_zero w.heap.size,hmi.froz 0 15 (by decide)];unfold madeW;simp[go_sem]
   clear hget hrun hmi
   by_cases z69:s[k]=69
   ·have hzi:(s[k].toNat:Int)=69:=by rw[z69];rfl
    have HZ:=Lib.hid z69
    clear z69
    by_cases hsz:f.size=1
    ·have es:(f.size==1)=true:=by simpa using hsz
     obtain⟨q,hq⟩:∃q,turnO rm 2=q:=⟨_,rfl⟩
     have HQ:=fun u=>rturned_any rm 2 u
     rw[hq]at HQ
     unfold opV at HQ
     have HQ:=Lib.hid HQ
     have HBW:=Lib.hid (Below.refl wr.heap.size wr)
     have hst:stepM f rm reg L bs ⟨l,C,at_⟩ 69=some ⟨l++[q],C,at_+0⟩:=by
      unfold stepM
      rw[show needF f.size 69=0 from rfl,if_neg (by show ¬L<at_+0;omega)]
      show some (Mst.mk (l++[if f.size=1 then turnO rm 2 else rm]) C (at_+0))=_;rw[if_pos hsz,hq]
     have HST:=Lib.hid hst
     have hd1:decide ((L:Int)<(at_:Int))=false:=decide_eq_false (by omega)
     have hd2:decide (L<at_)=false:=decide_eq_false (by omega)
     clear hst
     clear hq hsz
     go_wp2_with (first|(go_at_call 52;(with_reducible refine(HQ.out _).mono ?_);rintro e u1 ⟨rfl,hb1⟩;have HB1:=Lib.hid (below_step HBW.out hb1);clear hb1)|(at_builtin;go_loud (refine append_opd rfl (.tmp 102) (.tmp 105) rfl (w.heap.size+4) _ l rfl (HOWN.out.below (below_last HB1.out _)) _ q rfl (by simp[go_sem]) (by simp[go_sem]) (by simp[go_sem]) (by simp[go_sem]) (by simp[go_sem]) (by simp[go_sem]) (by omega) (by first|(simp;omega)|(have:=HB1.out.size;simp;omega)) ?_);intro v' u2 ho hkeep;have HO:=Lib.hid ho;have HK:=Lib.hid hkeep;clear ho hkeep))
     go_roundw
     case rel=>exact⟨k+1,⟨l++[q],C,at_+0⟩,by omega,by go_num,by rw[HRL.out,HZ.out];exact HST.out,by go_num,by show at_+0≤L;omega,by simp;omega,HMI.out.push (below_last HB1.out _) HO.out HK.out⟩
     case measure=>simp[intOf];omega
    ·have es:(f.size==1)=false:=by simpa using hsz
     have hst:stepM f rm reg L bs ⟨l,C,at_⟩ 69=some ⟨l++[rm],C,at_+0⟩:=by
      unfold stepM
      rw[show needF f.size 69=0 from rfl,if_neg (by show ¬L<at_+0;omega)]
      show some (Mst.mk (l++[if f.size=1 then turnO rm 2 else rm]) C (at_+0))=_;rw[if_neg hsz]
     have HST:=Lib.hid hst
     have hd1:decide ((L:Int)<(at_:Int))=false:=decide_eq_false (by omega)
     have hd2:decide (L<at_)=false:=decide_eq_false (by omega)
     clear hst
     clear hsz
     go_wp2_with (at_builtin;go_loud (refine append_opd rfl (.tmp 107) (.tmp 109) rfl (w.heap.size+4) _ l rfl (HOWN.out.below (below_last (Below.refl _ _) _)) _ rm rfl (by simp[go_sem]) (by simp[go_sem]) (by simp[go_sem]) (by simp[go_sem]) (by simp[go_sem]) (by simp[go_sem]) (by omega) (by first|(simp;omega)|(have:=HB1.out.size;simp;omega)) ?_);intro v' u2 ho hkeep;have HO:=Lib.hid ho;have HK:=Lib.hid hkeep;clear ho hkeep)
     go_roundw
     case rel=>exact⟨k+1,⟨l++[rm],C,at_+0⟩,by omega,by go_num,by rw[HRL.out,HZ.out];exact HST.out,by go_num,by show at_+0≤L;omega,by simp;omega,HMI.out.push (below_last (Below.refl _ _) _) HO.out HK.out⟩
     case measure=>simp[intOf];omega
   by_cases z71:s[k]=71
   ·have hzi:(s[k].toNat:Int)=71:=by rw[z71];rfl
    have HZ:=Lib.hid z71
    clear z71
    obtain⟨q,hq⟩:∃q,smallO f.size reg=q:=⟨_,rfl⟩
    have HQ:=fun u=>rsmall_any f.size reg u
    rw[hq]at HQ
    unfold opV at HQ
    have HQ:=Lib.hid HQ
    have HBW:=Lib.hid (Below.refl wr.heap.size wr)
    have hst:stepM f rm reg L bs ⟨l,C,at_⟩ 71=some ⟨l++[q],C,at_+0⟩:=by
     unfold stepM
     rw[show needF f.size 71=0 from rfl,if_neg (by show ¬L<at_+0;omega)]
     rw[←hq];rfl
    have HST:=Lib.hid hst
    have hd1:decide ((L:Int)<(at_:Int))=false:=decide_eq_false (by omega)
    have hd2:decide (L<at_)=false:=decide_eq_false (by omega)
    clear hst
    clear hq
    go_wp2_with (first|(go_at_call 53;(with_reducible refine(HQ.out _).mono ?_);rintro e u1 ⟨rfl,hb1⟩;have HB1:=Lib.hid (below_step HBW.out hb1);clear hb1)|(at_builtin;go_loud (refine append_opd rfl (.tmp 126) (.tmp 131) rfl (w.heap.size+4) _ l rfl (HOWN.out.below (below_last HB1.out _)) _ q rfl (by simp[go_sem]) (by simp[go_sem]) (by simp[go_sem]) (by simp[go_sem]) (by simp[go_sem]) (by simp[go_sem]) (by omega) (by first|(simp;omega)|(have:=HB1.out.size;simp;omega)) ?_);intro v' u2 ho hkeep;have HO:=Lib.hid ho;have HK:=Lib.hid hkeep;clear ho hkeep))
    go_roundw
    case rel=>exact⟨k+1,⟨l++[q],C,at_+0⟩,by omega,by go_num,by rw[HRL.out,HZ.out];exact HST.out,by go_num,by show at_+0≤L;omega,by simp;omega,HMI.out.push (below_last HB1.out _) HO.out HK.out⟩
    case measure=>simp[intOf];omega
   by_cases z103:s[k]=103
   ·have hzi:(s[k].toNat:Int)=103:=by rw[z103];rfl
    have HZ:=Lib.hid z103
    clear z103
    obtain⟨q,hq⟩:∃q,regO 1 reg=q:=⟨_,rfl⟩
    have HQ:=fun u=>rregister_below 1 reg u
    rw[hq]at HQ
    unfold opV at HQ
    have HQ:=Lib.hid HQ
    have HBW:=Lib.hid (Below.refl wr.heap.size wr)
    have hst:stepM f rm reg L bs ⟨l,C,at_⟩ 103=some ⟨l++[q],C,at_+0⟩:=by
     unfold stepM
     rw[show needF f.size 103=0 from rfl,if_neg (by show ¬L<at_+0;omega)]
     rw[←hq];rfl
    have HST:=Lib.hid hst
    have hd1:decide ((L:Int)<(at_:Int))=false:=decide_eq_false (by omega)
    have hd2:decide (L<at_)=false:=decide_eq_false (by omega)
    clear hst
    clear hq
    go_wp2_with (first|(go_at_call 49;(with_reducible refine(HQ.out _).mono ?_);rintro e u1 ⟨rfl,hb1⟩;have HB1:=Lib.hid (below_step HBW.out hb1);clear hb1)|(at_builtin;go_loud (refine append_opd rfl (.tmp 135) (.tmp 138) rfl (w.heap.size+4) _ l rfl (HOWN.out.below (below_last HB1.out _)) _ q rfl (by simp[go_sem]) (by simp[go_sem]) (by simp[go_sem]) (by simp[go_sem]) (by simp[go_sem]) (by simp[go_sem]) (by omega) (by first|(simp;omega)|(have:=HB1.out.size;simp;omega)) ?_);intro v' u2 ho hkeep;have HO:=Lib.hid ho;have HK:=Lib.hid hkeep;clear ho hkeep))
    go_roundw
    case rel=>exact⟨k+1,⟨l++[q],C,at_+0⟩,by omega,by go_num,by rw[HRL.out,HZ.out];exact HST.out,by go_num,by show at_+0≤L;omega,by simp;omega,HMI.out.push (below_last HB1.out _) HO.out HK.out⟩
    case measure=>simp[intOf];omega
   by_cases z101:s[k]=101
   ·have hzi:(s[k].toNat:Int)=101:=by rw[z101];rfl
    have HZ:=Lib.hid z101
    clear z101
    have hst:stepM f rm reg L bs ⟨l,C,at_⟩ 101=some ⟨l++[rm],C,at_+0⟩:=by
     unfold stepM
     rw[show needF f.size 101=0 from rfl,if_neg (by show ¬L<at_+0;omega)]
     rfl
    have HST:=Lib.hid hst
    have hd1:decide ((L:Int)<(at_:Int))=false:=decide_eq_false (by omega)
    have hd2:decide (L<at_)=false:=decide_eq_false (by omega)
    clear hst
    go_wp2_with (at_builtin;go_loud (refine append_opd rfl (.tmp 113) (.tmp 115) rfl (w.heap.size+4) _ l rfl (HOWN.out.below (below_last (Below.refl _ _) _)) _ rm rfl (by simp[go_sem]) (by simp[go_sem]) (by simp[go_sem]) (by simp[go_sem]) (by simp[go_sem]) (by simp[go_sem]) (by omega) (by first|(simp;omega)|(have:=HB1.out.size;simp;omega)) ?_);intro v' u2 ho hkeep;have HO:=Lib.hid ho;have HK:=Lib.hid hkeep;clear ho hkeep)
    go_roundw
    case rel=>exact⟨k+1,⟨l++[rm],C,at_+0⟩,by omega,by go_num,by rw[HRL.out,HZ.out];exact HST.out,by go_num,by show at_+0≤L;omega,by simp;omega,HMI.out.push (below_last (Below.refl _ _) _) HO.out HK.out⟩
    case measure=>simp[intOf];omega
   by_cases z88:s[k]=88
   ·have hzi:(s[k].toNat:Int)=88:=by rw[z88];rfl
    have HZ:=Lib.hid z88
    clear z88
    obtain⟨q,hq⟩:∃q,regO 5 reg=q:=⟨_,rfl⟩
    have HQ:=fun u=>rregister_below 5 reg u
    rw[hq]at HQ
    unfold opV at HQ
    have HQ:=Lib.hid HQ
    have HBW:=Lib.hid (Below.refl wr.heap.size wr)
    have hst:stepM f rm reg L bs ⟨l,C,at_⟩ 88=some ⟨l++[q],C,at_+0⟩:=by
     unfold stepM
     rw[show needF f.size 88=0 from rfl,if_neg (by show ¬L<at_+0;omega)]
     rw[←hq];rfl
    have HST:=Lib.hid hst
    have hd1:decide ((L:Int)<(at_:Int))=false:=decide_eq_false (by omega)
    have hd2:decide (L<at_)=false:=decide_eq_false (by omega)
    clear hst
    clear hq
    go_wp2_with (first|(go_at_call 49;(with_reducible refine(HQ.out _).mono ?_);rintro e u1 ⟨rfl,hb1⟩;have HB1:=Lib.hid (below_step HBW.out hb1);clear hb1)|(at_builtin;go_loud (refine append_opd rfl (.tmp 142) (.tmp 145) rfl (w.heap.size+4) _ l rfl (HOWN.out.below (below_last HB1.out _)) _ q rfl (by simp[go_sem]) (by simp[go_sem]) (by simp[go_sem]) (by simp[go_sem]) (by simp[go_sem]) (by simp[go_sem]) (by omega) (by first|(simp;omega)|(have:=HB1.out.size;simp;omega)) ?_);intro v' u2 ho hkeep;have HO:=Lib.hid ho;have HK:=Lib.hid hkeep;clear ho hkeep))
    go_roundw
    case rel=>exact⟨k+1,⟨l++[q],C,at_+0⟩,by omega,by go_num,by rw[HRL.out,HZ.out];exact HST.out,by go_num,by show at_+0≤L;omega,by simp;omega,HMI.out.push (below_last HB1.out _) HO.out HK.out⟩
    case measure=>simp[intOf];omega
   by_cases z89:s[k]=89
   ·have hzi:(s[k].toNat:Int)=89:=by rw[z89];rfl
    have HZ:=Lib.hid z89
    clear z89
    obtain⟨q,hq⟩:∃q,turnO rm 5=q:=⟨_,rfl⟩
    have HQ:=fun u=>rturned_any rm 5 u
    rw[hq]at HQ
    unfold opV at HQ
    have HQ:=Lib.hid HQ
    have HBW:=Lib.hid (Below.refl wr.heap.size wr)
    have hst:stepM f rm reg L bs ⟨l,C,at_⟩ 89=some ⟨l++[q],C,at_+0⟩:=by
     unfold stepM
     rw[show needF f.size 89=0 from rfl,if_neg (by show ¬L<at_+0;omega)]
     rw[←hq];rfl
    have HST:=Lib.hid hst
    have hd1:decide ((L:Int)<(at_:Int))=false:=decide_eq_false (by omega)
    have hd2:decide (L<at_)=false:=decide_eq_false (by omega)
    clear hst
    clear hq
    go_wp2_with (first|(go_at_call 52;(with_reducible refine(HQ.out _).mono ?_);rintro e u1 ⟨rfl,hb1⟩;have HB1:=Lib.hid (below_step HBW.out hb1);clear hb1)|(at_builtin;go_loud (refine append_opd rfl (.tmp 119) (.tmp 122) rfl (w.heap.size+4) _ l rfl (HOWN.out.below (below_last HB1.out _)) _ q rfl (by simp[go_sem]) (by simp[go_sem]) (by simp[go_sem]) (by simp[go_sem]) (by simp[go_sem]) (by simp[go_sem]) (by omega) (by first|(simp;omega)|(have:=HB1.out.size;simp;omega)) ?_);intro v' u2 ho hkeep;have HO:=Lib.hid ho;have HK:=Lib.hid hkeep;clear ho hkeep))
    go_roundw
    case rel=>exact⟨k+1,⟨l++[q],C,at_+0⟩,by omega,by go_num,by rw[HRL.out,HZ.out];exact HST.out,by go_num,by show at_+0≤L;omega,by simp;omega,HMI.out.push (below_last HB1.out _) HO.out HK.out⟩
    case measure=>simp[intOf];omega
   exfalso
   have hin:=HZL.out s[k] (by rw[←HGET.out];exact List.getElem_mem hkl)
   rcases hin with h|h|h|h|h|h
   ·exact z69 h
   ·exact z71 h
   ·exact z103 h
   ·exact z101 h
   ·exact z88 h
   ·exact z89 h
  ·have hke:k=s.size:=by omega
   have HF:=Lib.hid (show runM f rm reg L bs f.how ⟨[],i.c,k0⟩=some ⟨l,C,at_⟩by rw[←HRUN.out,hke,HN.out,List.take_length])
   have hE:EX w { i with c:=C } wr:=⟨by rw[HMI.out.below.block _ (by omega)];unfold madeW;rw[heap_low _ _ _ (by simp;omega),heap_low _ _ _ (by simp;omega),heap_low _ _ _ (by simp)];exact heap_top _ _ _ rfl,by rw[HMI.out.below.block _ (by omega)];unfold madeW;exact heap_top _ _ _ (by simp),HMI.out.all⟩
   have HEX:=Lib.hid hE
   obtain⟨c17,z17⟩:=hE.c17
   have hd0:decide ((k:Int)<(s.size:Int))=false:=decide_eq_false (by omega)
   have hd0':decide (k<s.size)=false:=decide_eq_false (by omega)
   clear hE hke f2 f4 r0 r1 r2 r3 r4 r5 hlt hkN
   rcases l with _|⟨oa,_|⟨ob,l⟩⟩
   obtain⟨a14,c14,rfl⟩:=own_nil HOWN.out
   obtain⟨J,hJ⟩:∃J:Ins,{ i with c:=C,len:=at_ }=J:=⟨_,rfl⟩
   have HJ:=Lib.hid hJ
   clear hJ
   rotate_left
   obtain⟨G,c14,rfl,hG,hg⟩:=own_cons HOWN.out
   have HG0:=Lib.hid (range_first hg)
   obtain⟨J,hJ⟩:∃J:Ins,{ i with a:=oa,c:=C,len:=at_ }=J:=⟨_,rfl⟩
   have HJ:=Lib.hid hJ
   clear hg hJ
   rotate_left
   obtain⟨G,c14,rfl,hG,hg⟩:=own_cons HOWN.out
   have HG0:=Lib.hid (range_first hg)
   have HG1:=Lib.hid (range_next hg)
   obtain⟨n,hn⟩:∃n,(ob :: l).length+1=n:=⟨_,rfl⟩
   have hn2:1<n:=by rw[←hn];simp
   rw[hn]
   have t0:decide ((0:Int)<(n:Int))=true:=decide_eq_true (by omega)
   have t0':decide (0<n)=true:=decide_eq_true (by omega)
   have t1:decide ((1:Int)<(n:Int))=true:=decide_eq_true (by omega)
   have t1':decide (1<n)=true:=decide_eq_true (by omega)
   have u0:(0:Int)<(n:Int):=by omega
   have u1:(1:Int)<(n:Int):=by omega
   obtain⟨J,hJ⟩:∃J:Ins,{ i with a:=oa,b:=ob,c:=C,len:=at_ }=J:=⟨_,rfl⟩
   have HJ:=Lib.hid hJ
   clear hg hJ hn
   all_goals
    go_wp2_with (first|(refine wpList_load_mid rfl 32 (.tmp 206) rfl G 0 rfl (opL oa) _ HG0.out Tryz.underlying32 rfl info_opd1 ?_)|(refine EX.st (J:={ i with c:=C }) rfl (.tmp 208) (.tmp 207) rfl 3 rfl oa rfl _ (setL_a _ _) (by decide) ?_ ?_;exact HEX.out;intro Y1 hE1 hk1;obtain⟨c17',z17'⟩:=hE1.c17;have HEX:=Lib.hid hE1;try have HG1:=Lib.hid (hk1 _ _ _ (by omega) HG1.out);clear hE1 hk1)|(refine wpList_load_mid rfl 32 (.tmp 213) rfl G 6 rfl (opL ob) _ HG1.out Tryz.underlying32 rfl info_opd1 ?_)|(refine EX.st (J:={ i with a:=oa,c:=C }) rfl (.tmp 215) (.tmp 214) rfl 9 rfl ob rfl _ (setL_b _ _) (by decide) ?_ ?_;exact HEX.out;intro Y2 hE2 hk2;obtain⟨c17',z17'⟩:=hE2.c17;have HEX:=Lib.hid hE2;clear hE2 hk2)|(refine wpList_load_mid rfl 34 (.tmp 6) rfl w.heap.size 0 rfl (insL J) _ (by rw[←HJ.out];exact HEX.out.ld _) Tryz.underlying34 rfl info_ins ?_)|(refine store_ins rfl (.tmp 12) (.tmp 218) rfl (w.heap.size+1+1+1) rfl J rfl (HEX.out.th _) ?_;intro Y hY hl;have HY:=Lib.hid hY;have HL:=Lib.hid hl;clear hY hl))
    refine bodyPost_ret (results_cell_tmp rfl rfl rfl HL.out) rfl ⟨by unfold madeF;rw[HF.out,←HJ.out]<;>rfl,?_⟩
    rw[HY.out]
    exact below_setCells (by omega) _ _ _ (HEX.out.bl _)
end Go.Proofs.YtmdncgfheeijaaaGreat
