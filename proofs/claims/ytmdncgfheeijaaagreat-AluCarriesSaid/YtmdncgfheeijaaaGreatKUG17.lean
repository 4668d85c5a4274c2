import Derived.Deep.MidRow
import Derived.Deep.RegionWith
import Derived.Test.YtmdncgfheeijaaaGreatKUG15
import Derived.Test.YtmdncgfheeijaaaGreatKUG3
namespace Go.Proofs.YtmdncgfheeijaaaGreat
section
open Go.ChangeShapes Go.WideShapes Go.ChangeAt Go.RowKit Go.Maps Go.Deep
set_option maxRecDepth 100000
def sgL(s:Sg):List Value:=[.int .u32 s.b,.int .u32 s.z,.bool s.r,.bool s.q,.bool s.x]
def rbL(p:Nat)(c d:Sg):List Value:=[.pointer (some ⟨p,0,none⟩),.int .u32 c.b,.int .u32 c.z,.bool c.r,.bool c.q,.bool c.x,.int .u32 d.b,.int .u32 d.z,.bool d.r,.bool d.q,.bool d.x]
structure RAt (w:World) (b p B:Nat) (F:Nat→Prop) (g:Int→Int) (c d:Sg):Prop where
 bus:w.heap[b]?=some (.cells (rbL p c d).toArray 59 (0,0))
 ptr:w.cell? ⟨p,0,none⟩=some (.map (some B))
 map:RefMap w B 4294967296 g
 own:∀k,F k↔(k=b∨k=p∨k=B)
 bp:b≠p
 bB:b≠B
 pB:p≠B
 ok:c.ok∧d.ok
def RBus(w:World)(b:Nat)(F:Nat→Prop)(g:Int→Int)(c d:Sg):Prop:=∃p B,RAt w b p B F g c d
theorem RAt.but{F G:Nat→Prop}{w w':World}{b p B:Nat}{g:Int→Int}{c d:Sg}(h:RAt w b p B F g c d)(hb:But G w w')(hn:∀k,F k→¬G k):RAt w' b p B F g c d:=
 ⟨(hb.block b (Array.getElem?_eq_some_iff.1 h.bus).1 (hn b ((h.own b).2 (.inl rfl)))).trans h.bus,hb.cell h.ptr (hn p ((h.own p).2 (.inr (.inl rfl)))),h.map.but hb (hn B ((h.own B).2 (.inr (.inr rfl)))),h.own,h.bp,h.bB,h.pB,h.ok⟩
theorem RBus.but{F G:Nat→Prop}{w w':World}{b:Nat}{g:Int→Int}{c d:Sg}(h:RBus w b F g c d)(hb:But G w w')(hn:∀k,F k→¬G k):RBus w' b F g c d:=by
 obtain⟨p,B,h⟩:=h
 exact⟨p,B,h.but hb hn⟩
theorem RBus.below{F:Nat→Prop}{w w':World}{b:Nat}{g:Int→Int}{c d:Sg}(h:RBus w b F g c d)(hb:Below w.heap.size w w'):RBus w' b F g c d:=
 h.but (G:=fun _=>False) (But.of_below hb) (fun _ _ h=>h)
theorem RAt.lt{F:Nat→Prop}{w:World}{b p B:Nat}{g:Int→Int}{c d:Sg}(h:RAt w b p B F g c d)(k:Nat)(hk:F k):k<w.heap.size:=by
 rcases(h.own k).1 hk with rfl|rfl|rfl
 ·exact(Array.getElem?_eq_some_iff.1 h.bus).1
 ·exact cell_lt h.ptr
 ·obtain⟨D,hm,_⟩:=h.map
  exact hm.lt
theorem RBus.lt{F:Nat→Prop}{w:World}{b:Nat}{g:Int→Int}{c d:Sg}(h:RBus w b F g c d)(k:Nat)(hk:F k):k<w.heap.size:=by
 obtain⟨p,B,h⟩:=h
 exact h.lt k hk
theorem RBus.byte{F:Nat→Prop}{w:World}{b:Nat}{g:Int→Int}{c d:Sg}(h:RBus w b F g c d)(a:Int):0≤g a∧g a<256:=by
 obtain⟨p,B,h⟩:=h
 obtain⟨D,_,_,_,hg,_⟩:=h.map
 exact hg a
theorem info_sg:(Tryz.prog.info? 57).map (·.size)=some 5:=by kernel_rfl
theorem RAt.data{F:Nat→Prop}{w:World}{b p B:Nat}{g:Int→Int}{c d:Sg}(h:RAt w b p B F g c d):w.rangeAt b 6 (sgL d):=fun j v hj=>by
 have hj5:j<5:=(List.getElem?_eq_some_iff.1 hj).1
 have hc:=(cell_block h.bus (6+j)).1
 rw[hc]
 rcases(show j=0∨j=1∨j=2∨j=3∨j=4 by omega)with rfl|rfl|rfl|rfl|rfl<;>exact hj
theorem RAt.code{F:Nat→Prop}{w:World}{b p B:Nat}{g:Int→Int}{c d:Sg}(h:RAt w b p B F g c d):w.rangeAt b 1 (sgL c):=fun j v hj=>by
 have hj5:j<5:=(List.getElem?_eq_some_iff.1 hj).1
 have hc:=(cell_block h.bus (1+j)).1
 rw[hc]
 rcases(show j=0∨j=1∨j=2∨j=3∨j=4 by omega)with rfl|rfl|rfl|rfl|rfl<;>exact hj
theorem RBus.code{F:Nat→Prop}{w:World}{b:Nat}{g:Int→Int}{c d:Sg}(h:RBus w b F g c d):w.rangeAt b 1 (sgL c):=by obtain⟨p,B,h⟩:=h;exact h.code
theorem RBus.data{F:Nat→Prop}{w:World}{b:Nat}{g:Int→Int}{c d:Sg}(h:RBus w b F g c d):w.rangeAt b 6 (sgL d):=by obtain⟨p,B,h⟩:=h;exact h.data
theorem RAt.next{F:Nat→Prop}{w w':World}{b p B m:Nat}{g g':Int→Int}{c d:Sg}(h:RAt w b p B F g c d)(hb:But (·=B) w w')(hm:RefMap w' B m g'):RAt w' b p B F g' c d:=
 ⟨(hb.block b (Array.getElem?_eq_some_iff.1 h.bus).1 h.bB).trans h.bus,hb.cell h.ptr h.pB,hm.few,h.own,h.bp,h.bB,h.pB,h.ok⟩
theorem writeG_twice(g:Int→Int)(a:Int)(bs:Nat→Int)(n:Nat)(hn:n≤4294967296):writeG (writeG g a bs n) a bs n=writeG g a bs n:=by
 funext q
 by_cases h:∃i,i<n∧q=place a i
 ·obtain⟨i,hi,rfl⟩:=h
  rw[writeG_hit _ a bs n i hn hi,writeG_hit _ a bs n i hn hi]
 ·exact writeG_far _ a bs q n (fun i hi e=>h ⟨i,hi,e⟩)
theorem stG_twice(g:Int→Int)(d:Sg)(off size v:Int):stG (stG g d off size v) d off size v=stG g d off size v:=by
 unfold stG
 by_cases h:stE d off size=0
 ·rw[if_pos h,if_pos h]
  exact writeG_twice g _ _ _ (by have:=widN_hi size;omega)
 ·rw[if_neg h,if_neg h]
end
section
open Go.ChangeShapes Go.WideShapes Go.ChangeAt Go.RowKit
set_option maxRecDepth 100000
def regN(s:Sta)(i:Int):Int:=if 0≤i∧i≤7 then s.r i.toNat else 0
def ofF(s:Sta)(o:Opd):Int:=(o.disp+regN s o.base+regN s o.index*o.scale)%4294967296
theorem ofF_lo(s:Sta)(o:Opd):0≤ofF s o:=by unfold ofF;omega
theorem ofF_hi(s:Sta)(o:Opd):ofF s o<4294967296:=by unfold ofF;omega
theorem mul_wrap(a b:Int):a*(b%4294967296)%4294967296=a*b%4294967296:=by
 rw[Int.mul_emod,Int.emod_emod,←Int.mul_emod]
theorem regN_lo{s:Sta}(hs:StaOk s)(i:Int):0≤regN s i∧regN s i<4294967296:=by
 unfold regN
 split
 ·exact hs.r _ (by omega)
 ·omega
theorem rng_two{w u:World}{s:Sta}{o:Opd}{W:World}(hW:W=(w.alloc (.cells (staL s).toArray 29)).alloc (.cells (opL' o).toArray 32))(hu:Below W.heap.size W u):u.rangeAt w.heap.size 0 (staL s)∧u.rangeAt (w.heap.size+1) 0 (opL' o):=by
 obtain⟨h1,h2,_⟩:=heap_two hW
 exact⟨range_in13 ((hu.block _ (Array.getElem?_eq_some_iff.1 h1).1).trans h1) 0 _ rfl,range_in13 ((hu.block _ (Array.getElem?_eq_some_iff.1 h2).1).trans h2) 0 _ rfl⟩
end
section
open Go.ChangeShapes Go.WideShapes Go.ChangeAt Go.RowKit
set_option maxRecDepth 100000
structure Ins where
 op:Int
 cond:Int
 size:Int
 a:Opd
 b:Opd
 c:Int
 rep:Bool
 len:Int
 deriving DecidableEq
def insC(i:Ins):Array Value:=#[.int .i64 i.op,.int .i64 i.cond,.int .i64 i.size,.int .i64 i.a.kind,.int .i64 i.a.reg,.int .i64 i.a.base,.int .i64 i.a.index,.int .i64 i.a.scale,.int .u32 i.a.disp,.int .i64 i.b.kind,.int .i64 i.b.reg,.int .i64 i.b.base,.int .i64 i.b.index,.int .i64 i.b.scale,.int .u32 i.b.disp,.int .u32 i.c,.bool i.rep,.int .i64 i.len]
def insV(i:Ins):Value:=.agg (insC i)
def zeroO:Opd:=⟨0,0,0,0,0,0⟩
def noneO:Opd:=⟨0,0,-1,-1,1,0⟩
def zeroI:Ins:=⟨0,0,0,zeroO,zeroO,0,false,0⟩
structure Mst where
 l:List Opd
 c:Int
 at_:Nat
def needF(size:Int)(c:UInt8):Nat:=if c=73 then(if size=4 then 4 else 1)else if c=98∨c=66 then 1 else if c=119 then 2 else if c=105∨c=76∨c=109 then 4 else 0
def valF(need:Nat)(c:UInt8)(bs:Nat→Int)(k:Nat):Int:=if need=1 then(if c=73 then bs k else sx9 (bs k))else if need=2 then bs k+bs (k+1)*256 else if need=4 then four9 (bs k) (bs (k+1)) (bs (k+2)) (bs (k+3))else 0
def pushF(f:Frm)(rm:Opd)(reg v:Int)(c:UInt8):List Opd:=
 if c=69 then[if f.size=1 then turnO rm 2 else rm]else if c=101 then[rm]else if c=89 then[turnO rm 5]else if c=71 then[smallO f.size reg]else if c=103 then[regO 1 reg]
 else if c=88 then[regO 5 reg]else if c=114 then[smallO f.size f.c]else if c=97 then[smallO f.size 0]else if c=49 then[numO 1]else if c=99 then[regO 2 1]else if c=109 then[⟨3,0,-1,-1,1,v⟩]
 else if c=76∨c=66 then[]else if c=73∨c=98∨c=119∨c=105 then[numO v]else[]
def stepM(f:Frm)(rm:Opd)(reg:Int)(L:Nat)(bs:Nat→Int)(s:Mst)(c:UInt8):Option Mst:=
 if L<s.at_+needF f.size c then none
 else some ⟨s.l++pushF f rm reg (valF (needF f.size c) c bs s.at_) c,if c=76∨c=66 then valF (needF f.size c) c bs s.at_ else s.c,s.at_+needF f.size c⟩
def runM(f:Frm)(rm:Opd)(reg:Int)(L:Nat)(bs:Nat→Int):List UInt8→Mst→Option Mst
 |[],s=>some s
 |c :: l,s=>(stepM f rm reg L bs s c).bind (runM f rm reg L bs l)
theorem runM_append(f:Frm)(rm:Opd)(reg:Int)(L:Nat)(bs:Nat→Int)(l m:List UInt8)(s:Mst):runM f rm reg L bs (l++m) s=(runM f rm reg L bs l s).bind (runM f rm reg L bs m):=by
 induction l generalizing s with
 |nil=>rfl
 |cons c l ih=>
  show(stepM f rm reg L bs s c).bind _=((stepM f rm reg L bs s c).bind _).bind _
  cases stepM f rm reg L bs s c with
  |none=>rfl
  |some t=>exact ih t
theorem runM_snoc(f:Frm)(rm:Opd)(reg:Int)(L:Nat)(bs:Nat→Int)(l:List UInt8)(k:Nat)(h:k<l.length)(s t:Mst)(hr:runM f rm reg L bs (l.take k) s=some t):runM f rm reg L bs (l.take (k+1)) s=stepM f rm reg L bs t l[k]:=by
 rw[List.take_succ_eq_append_getElem h,runM_append,hr]
 show(stepM f rm reg L bs t l[k]).bind (runM f rm reg L bs [])=_
 cases stepM f rm reg L bs t l[k]<;>rfl
theorem runM_none(f:Frm)(rm:Opd)(reg:Int)(L:Nat)(bs:Nat→Int)(l:List UInt8)(k:Nat)(h:k<l.length)(s t:Mst)(hr:runM f rm reg L bs (l.take k) s=some t)(hn:stepM f rm reg L bs t l[k]=none):runM f rm reg L bs l s=none:=by
 have h1:=runM_snoc f rm reg L bs l k h s t hr
 rw[hn]at h1
 have:l=l.take (k+1)++l.drop (k+1):=(List.take_append_drop _ _).symm
 rw[this,runM_append,h1]
 rfl
def madeF(i:Ins)(f:Frm)(rm:Opd)(reg:Int)(L:Nat)(bs:Nat→Int)(k:Nat):Ins×Int:=
 match runM f rm reg L bs f.how ⟨[],i.c,k⟩with
 |none=>(zeroI,21)
 |some s=>({ i with a:=s.l.getD 0 i.a,b:=s.l.getD 1 i.b,c:=s.c,len:=s.at_ },0)
def insR(x:Ins×Int):Value:=.tuple #[insV x.1,.int .i64 x.2]
end
section
open Go.ChangeShapes Go.WideShapes Go.ChangeAt Go.RowKit
set_option maxRecDepth 100000
theorem info_ins:(Tryz.prog.info? 34).map (·.size)=some 18:=by kernel_rfl
def insL(i:Ins):List Value:=[.int .i64 i.op,.int .i64 i.cond,.int .i64 i.size,.int .i64 i.a.kind,.int .i64 i.a.reg,.int .i64 i.a.base,.int .i64 i.a.index,.int .i64 i.a.scale,.int .u32 i.a.disp,.int .i64 i.b.kind,.int .i64 i.b.reg,.int .i64 i.b.base,.int .i64 i.b.index,.int .i64 i.b.scale,.int .u32 i.b.disp,.int .u32 i.c,.bool i.rep,.int .i64 i.len]
def zeroA:Array Value:=#[.int .i64 0,.int .i64 0,.int .i64 0,.int .i64 0,.int .i64 0,.int .i64 0,.int .i64 0,.int .i64 0,.int .u32 0,.int .i64 0,.int .i64 0,.int .i64 0,.int .i64 0,.int .i64 0,.int .u32 0,.int .u32 0,.bool false,.int .i64 0]
theorem ins_one(i:Ins):(insL i).toArray.all (·.oneCell')=true:=by simp[insL,Value.oneCell']
theorem store_ins{ops:Array Oper}{rest:List Oper}{op:Oper}{a:Act}{w:World}{Q:Exit→Act→World→Prop}(hgd:op.guard=none)(x y:Operand)(ho:op.op=.store 34 x y)
  (R:Nat) (hx:a.eval x=.pointer (some ⟨R,0,none⟩)) (q:Ins) (hy:a.eval y=insV q) (ht:w.there R 0 18)
  (hK:∀Y,Y=w.setCells R 0 (insL q)→(loadVar 34 ⟨R,0,none⟩).run Tryz.prog Y=.ok (insV q) Y→wpList Tryz.prog ops Q rest (a.put op.dst undef) Y):wpList Tryz.prog ops Q (op :: rest) a w:=
 store_row hgd _ x y ho R hx (insL q) hy _ Tryz.underlying34 rfl info_ins (ins_one q) ht hK
end
section
open Go.ChangeShapes Go.WideShapes Go.ChangeAt Go.RowKit
set_option maxRecDepth 100000
def cutA(ad:Addr)(cap s:Nat):Addr:=if cap=s then ad else ad.add s
theorem slice_tail(ad:Addr)(L cap k:Nat)(ks:Int)(e1:ks=k)(h1:k≤L)(w:World):
  (Instr.sliceAt 37 (.slice (some ad) L cap) (some (.int .i64 ks)) none none).run Tryz.prog w=.ok (.slice (some (cutA ad cap k)) (L-k) (cap-k)) w:=by
 have hE:Tryz.prog.elem 37=5:=by kernel_rfl
 have hz:(sizeOf (Tryz.prog.elem 37)).run Tryz.prog w=.ok 1 w:=by kernel_rfl
 have hu:Tryz.prog.underlying 37=some (.slice (Tryz.prog.elem 37)):=by rw[hE];exact Tryz.underlying37
 subst e1
 rw[run_sliceAt_slice w _ _ _ _ _ hu,run_slice_l w _ _ _ _ hu .i64 (k:Int) (by omega) (by omega),hz]
 simp only[Result.andThen,sliced,Option.map_some,Nat.mul_one,Int.toNat_natCast]
 unfold cutA
 by_cases hk:cap=k
 ·rw[if_pos hk,if_pos (by omega)]
 ·rw[if_neg hk,if_neg (by omega)]
theorem slc_tail{w:World}{ad:Addr}{M cap:Nat}{bs:Nat→Int}(hc:∀i,i<M→w.cell? (ad.add i)=some (.int .u8 (bs i)))(hl:M≤cap)(k:Nat)(hk:k≤M):Slc .u8 w (.slice (some (cutA ad cap k)) (M-k) (cap-k)) (M-k) (fun i=>bs (k+i)):=by
 refine .inr ⟨_,_,rfl,by omega,fun i hi=>?_⟩
 rw[←hc (k+i) (by omega)]
 unfold cutA
 rw[if_neg (by omega)]
 congr 1
 unfold Addr.add
 by_cases h0:k=0
 ·subst h0;simp
 ·by_cases hi0:i=0
  ·subst hi0;simp[h0]
  ·rw[if_neg h0,if_neg hi0,if_neg (by omega)];simp[Nat.add_assoc]
theorem range_but{F:Nat→Prop}{w w':World}{R o:Nat}{cs:List Value}(h:But F w w')(hn:¬F R)(hr:w.rangeAt R o cs):w'.rangeAt R o cs:=fun j v hv=>h.cell (hr j v hv) hn
theorem range_alloc{w:World}{R o:Nat}{cs:List Value}(x:Obj)(hr:w.rangeAt R o cs)(hR:R<w.heap.size):(w.alloc x).rangeAt R o cs:=fun j v hv=>(World.cell?_alloc_lt w x ⟨R,o+j,none⟩ hR).trans (hr j v hv)
theorem heap_top0(w:World)(o:Obj)(B:Nat)(h:B=w.heap.size):(w.alloc o).heap[B]?=some o:=by subst h;show(w.heap.push o)[w.heap.size]?=_;simp
theorem opd_one(o:Opd):(opL' o).toArray.all (·.oneCell')=true:=by simp[opL',Value.oneCell']
theorem store_mid{P:Program}{ops:Array Oper}{rest:List Oper}{op:Oper}{a:Act}{w:World}{Q:Exit→Act→World→Prop}(hgd:op.guard=none)(T:TypeId)(x y:Operand)(ho:op.op=.store T x y)
  (R o:Nat) (hx:a.eval x=.pointer (some ⟨R,o,none⟩)) (C:List Value) (hy:a.eval y=.agg C.toArray) (hi:(P.info? T).map (·.size)=some C.length) (h1:C.toArray.all (·.oneCell')=true) (ht:w.there R o C.length)
  (hK:∀Y,Y=w.setCells R o C→wpList P ops Q rest (a.put op.dst undef) Y):wpList P ops Q (op :: rest) a w:=by
 refine wpList_store_mid hgd T x y ho R o C.toArray hx hy (by simpa using ht) (by simpa using hi) h1 ?_
 exact hK _ rfl
end
section
open Go.ChangeShapes Go.WideShapes Go.ChangeAt Go.RowKit
set_option maxRecDepth 100000
theorem range_below{w w':World}(hb:Below w.heap.size w w'){B o:Nat}{cs:List Value}(h:w.rangeAt B o cs):w'.rangeAt B o cs:=range_but (F:=fun _=>False) (But.of_below hb) (fun h=>h) h
structure Lies (w:World) (l:List (Nat×List Value)) (u:World):Prop where
 below:Below w.heap.size w u
 all:∀p∈l,p.1<u.heap.size∧u.rangeAt p.1 0 p.2
theorem Lies.none{w u:World}(h:Below w.heap.size w u):Lies w [] u:=⟨h,fun p hp=>by cases hp⟩
theorem Lies.on{w u u':World}{l:List (Nat×List Value)}(h:Lies w l u)(hb:Below u.heap.size u u'):Lies w l u':=
 ⟨below_step h.below hb,fun p hp=>⟨Nat.lt_of_lt_of_le (h.all p hp).1 hb.size,range_below hb (h.all p hp).2⟩⟩
theorem Lies.drew{w u:World}{l:List (Nat×List Value)}(h:Lies w l u):Lies w l { u with drawn:=u.drawn+1 }:=⟨h.below.drew,fun p hp=>⟨(h.all p hp).1,(h.all p hp).2⟩⟩
theorem Lies.alloc{w u:World}{l:List (Nat×List Value)}(h:Lies w l u)(o:Obj):Lies w l (u.alloc o):=h.on (below_last (Below.refl _ _) _)
theorem Lies.put{w u:World}{l:List (Nat×List Value)}(h:Lies w l u)(C:Array Value)(T:TypeId)(cs:List Value)(hC:cs.length≤C.size)(B:Nat)(hB:B=u.heap.size)(Y:World)(hY:Y=(u.alloc (.cells C T)).setCells B 0 cs):Lies w ((B,cs) :: l) Y:=by
 subst hB hY
 refine⟨below_setCells h.below.size _ _ _ (below_last h.below _),fun p hp=>?_⟩
 rcases List.mem_cons.1 hp with rfl|hp
 ·exact⟨by rw[setCells_size];simp,World.rangeAt_setCells_same _ _ _ _ (there_alloc_new u C T _ hC)⟩
 ·obtain⟨h1,h2⟩:=h.all p hp
  exact⟨by rw[setCells_size];simp;omega,World.rangeAt_setCells_apart (World.rangeAt_alloc h2 _) _ _ _ (.inl (by omega))⟩
theorem Lies.lit{w u:World}{l:List (Nat×List Value)}(h:Lies w l u)(C:Array Value)(T:TypeId)(B:Nat)(hB:B=u.heap.size):Lies w ((B,C.toList) :: l) (u.alloc (.cells C T)):=by
 subst hB
 refine⟨below_last h.below _,fun p hp=>?_⟩
 rcases List.mem_cons.1 hp with rfl|hp
 ·refine⟨by simp,fun j v hj=>?_⟩
  rw[Nat.zero_add,World.cell?_alloc_new]
  simpa using hj
 ·obtain⟨h1,h2⟩:=h.all p hp
  exact⟨by simp;omega,World.rangeAt_alloc h2 _⟩
theorem Lies.at_{w u:World}{l:List (Nat×List Value)}(h:Lies w l u)(B:Nat)(cs:List Value)(hm:(B,cs)∈l):u.rangeAt B 0 cs:=(h.all _ hm).2
theorem range_part{u:World}{B:Nat}{cs:List Value}(h:u.rangeAt B 0 cs)(o:Nat)(l:List Value)(hl:(cs.drop o).take l.length=l):u.rangeAt B o l:=fun i v hi=>by
 have hlt:=(List.getElem?_eq_some_iff.1 hi).1
 rw[←hl]at hi
 have h2:=h (o+i) v (by simpa[List.getElem?_take,List.getElem?_drop,hlt]using hi)
 rwa[Nat.zero_add]at h2
end
section
open Go.ChangeShapes Go.WideShapes Go.ChangeAt Go.RowKit
set_option maxRecDepth 100000
def ldA(g:Int→Int)(d:Sg)(s:Sta)(o:Opd)(size:Int):Int:=if o.kind=3 then ldV g d (ofF s o) size else getF s o
def ldO(d:Sg)(s:Sta)(o:Opd)(size:Int):Bool:=if o.kind=3 then ldE d (ofF s o) size==0 else true
def putS(s:Sta)(o:Opd)(v:Int):Sta:=if o.kind=3 then s else setF s o v
def putO(d:Sg)(a:Sta)(o:Opd)(size:Int):Bool:=if o.kind=3 then stE d (ofF a o) size==0 else true
def putG(g:Int→Int)(d:Sg)(a:Sta)(o:Opd)(size v:Int):Int→Int:=if o.kind=3 then stG g d (ofF a o) size v else g
end
end Go.Proofs.YtmdncgfheeijaaaGreat
