import Derived.Test.YtmdncgfheeijaaaGreatKVG27
namespace Go.Proofs.YtmdncgfheeijaaaGreat
section
open Go.ChangeShapes Go.WideShapes Go.ChangeAt Go.RowKit
set_option maxRecDepth 100000
structure Out where
 e:Int
 t:Sta
 g:Int→Int
def pinI(s:Sta)(I:Ins):Ins:={ I with a:=pinF s I.a,b:=pinF s I.b }
def lodV(g:Int→Int)(dd:Sg)(t:Sta)(o:Opd)(n:Int):Int:=cut (aldV g dd t o n) n
def tellT(t:Sta)(c p z s o:Bool):Sta:=fl t c p z s o t.d
def putZ(g:Int→Int)(dd:Sg)(t:Sta)(o:Opd)(n v:Int):Out:=if astE dd t o n=0 then⟨0,astS t o v,astG g dd t o n v⟩else⟨2,t,g⟩
def keepZ(g:Int→Int)(dd:Sg)(t:Sta)(I:Ins)(v:Int)(c p z s o:Bool):Out:=if astE dd t I.a I.size=0 then⟨0,tellT (astS t I.a v) c p z s o,astG g dd t I.a I.size v⟩else⟨2,t,g⟩
def oneZ(g:Int→Int)(dd:Sg)(t:Sta)(I:Ins)(K:Int→Out):Out:=if aldE dd t I.a I.size=0 then K (lodV g dd t I.a I.size)else⟨2,t,g⟩
def secZ(g:Int→Int)(dd:Sg)(t:Sta)(I:Ins)(K:Int→Out):Out:=if aldE dd t I.b I.size=0 then K (lodV g dd t I.b I.size)else⟨2,t,g⟩
def twoZ(g:Int→Int)(dd:Sg)(t:Sta)(I:Ins)(K:Int→Int→Out):Out:=oneZ g dd t I fun x=>secZ g dd t I fun y=>K x y
def addZ(g:Int→Int)(dd:Sg)(t:Sta)(I:Ins)(x y:Int)(c:Bool):Out:=keepZ g dd t I (addV x y I.size c) (addC x y I.size c) (par (addV x y I.size c)) (zer (addV x y I.size c)) (hi (addV x y I.size c) I.size) (addO x y I.size c)
def subZ(g:Int→Int)(dd:Sg)(t:Sta)(I:Ins)(x y:Int)(c:Bool):Out:=keepZ g dd t I (subV x y I.size c) (subC x y I.size c) (par (subV x y I.size c)) (zer (subV x y I.size c)) (hi (subV x y I.size c) I.size) (subO x y I.size c)
def cmpZ(g:Int→Int)(t:Sta)(I:Ins)(x y:Int):Out:=⟨0,tellT t (subC x y I.size false) (par (subV x y I.size false)) (zer (subV x y I.size false)) (hi (subV x y I.size false) I.size) (subO x y I.size false),g⟩
def sumZ(g:Int→Int)(dd:Sg)(t:Sta)(I:Ins):Out:=twoZ g dd t I fun x y=>
 if I.op=1 then addZ g dd t I x y false
 else if I.op=3 then addZ g dd t I x y t.c
 else if I.op=6 then subZ g dd t I x y false
 else if I.op=4 then subZ g dd t I x y t.c
 else cmpZ g t I x y
def logV(op x y:Int):Int:=if op=2 then bits .or .u32 x y else if op=7 then bits .xor .u32 x y else bits .and .u32 x y
def logicZ(g:Int→Int)(dd:Sg)(t:Sta)(I:Ins):Out:=twoZ g dd t I fun x y=>
 if I.op=9 then⟨0,tellT t false (par (cut (logV I.op x y) I.size)) (zer (cut (logV I.op x y) I.size)) (hi (cut (logV I.op x y) I.size) I.size) false,g⟩
 else keepZ g dd t I (cut (logV I.op x y) I.size) false (par (cut (logV I.op x y) I.size)) (zer (cut (logV I.op x y) I.size)) (hi (cut (logV I.op x y) I.size) I.size) false
def stepZ(g:Int→Int)(dd:Sg)(t:Sta)(I:Ins)(i:Int):Out:=oneZ g dd t I fun x=>keepZ g dd t I (stepV x I.size i) t.c (par (stepV x I.size i)) (zer (stepV x I.size i)) (hi (stepV x I.size i) I.size) (stepO x I.size i)
def shiftZ(g:Int→Int)(dd:Sg)(t:Sta)(I:Ins):Out:=twoZ g dd t I fun x y=>
 keepZ g dd t I (shV I.op x (y%32).toNat) (sfC I.op x (y%32).toNat t.c) (sfP I.op x (y%32).toNat t.p) (sfZ I.op x (y%32).toNat t.z) (sfS I.op x (y%32).toNat t.s) (sfO I.op x (y%32).toNat t.o)
def prodZ(g:Int→Int)(dd:Sg)(t:Sta)(I:Ins):Out:=oneZ g dd t I fun x=>
 if I.op=13 then⟨0,{ t with r:=putN (putN t.r 2 (imulH (t.r 0) x)) 0 (imulL (t.r 0) x),c:=imulC (t.r 0) x,o:=imulC (t.r 0) x },g⟩
 else⟨0,{ t with r:=putN (putN t.r 2 (mulH (t.r 0) x)) 0 (mulL (t.r 0) x),c:=mulC (t.r 0) x,o:=mulC (t.r 0) x },g⟩
def quotZ(g:Int→Int)(dd:Sg)(t:Sta)(I:Ins):Out:=oneZ g dd t I fun x=>
 if I.op=15 then(if idOk (t.r 2) (t.r 0) x then⟨0,{ t with r:=putN (putN t.r 0 (idQ (t.r 2) (t.r 0) x)) 2 (idR (t.r 2) (t.r 0) x) },g⟩else⟨3,t,g⟩)
 else(if divOk (t.r 2) x then⟨0,{ t with r:=putN (putN t.r 0 (divQ (t.r 2) (t.r 0) x)) 2 (divR (t.r 2) (t.r 0) x) },g⟩else⟨3,t,g⟩)
def mulZ(g:Int→Int)(dd:Sg)(t:Sta)(I:Ins)(a c:Int):Out:=keepZ g dd t I (imulL a c) (imulC a c) t.p t.z t.s (imulC a c)
def timesZ(g:Int→Int)(dd:Sg)(t:Sta)(I:Ins):Out:=
 if I.cond=1 then secZ g dd t I fun y=>mulZ g dd t I y I.c
 else twoZ g dd t I fun x y=>mulZ g dd t I x y
def markZ(g:Int→Int)(t:Sta)(op:Int):Out:=
 if op=41 then⟨0,{ t with c:=false },g⟩
 else if op=42 then⟨0,{ t with c:=true },g⟩
 else if op=43 then⟨0,{ t with c:=!t.c },g⟩
 else if op=44 then⟨0,{ t with d:=false },g⟩
 else⟨0,{ t with d:=true },g⟩
def heldF(t:Sta)(cond:Int):Int:=if condH cond t.c t.p t.z t.s t.o then 1 else 0
def xchgZ(g:Int→Int)(dd:Sg)(t:Sta)(I:Ins):Out:=twoZ g dd t I fun x y=>
 if astE dd t I.a I.size=0 then putZ (astG g dd t I.a I.size y) dd (astS t I.a y) I.b I.size x else⟨2,t,g⟩
def moveZ(g:Int→Int)(dd:Sg)(t:Sta)(I:Ins):Out:=
 if I.op=18 then secZ g dd t I fun y=>putZ g dd t I.a I.size y
 else if I.op=19 then secZ g dd t I fun y=>putZ g dd t I.a 4 y
 else if I.op=20 then secZ g dd t I fun y=>putZ g dd t I.a 4 (sgn y I.size%4294967296)
 else if I.op=21 then putZ g dd t I.a I.size (ofF t I.b)
 else if I.op=22 then xchgZ g dd t I
 else if I.op=35 then putZ g dd t I.a I.size (heldF t I.cond)
 else if I.op=36 then secZ g dd t I fun y=>if condH I.cond t.c t.p t.z t.s t.o then putZ g dd t I.a I.size y else⟨0,t,g⟩
 else if I.op=37 then⟨0,{ t with r:=putN t.r 0 (sgn (t.r 0) 2%4294967296) },g⟩
 else if I.op=38 then⟨0,{ t with r:=putN t.r 2 (cdqV (t.r 0)) },g⟩
 else⟨0,t,g⟩
def reckZ(g:Int→Int)(dd:Sg)(t:Sta)(I:Ins):Out:=
 if I.op=1∨I.op=3∨I.op=6∨I.op=4∨I.op=8 then sumZ g dd t I
 else if I.op=5∨I.op=2∨I.op=7∨I.op=9 then logicZ g dd t I
 else if I.op=10 then oneZ g dd t I fun x=>putZ g dd t I.a I.size (bits .xor .u32 4294967295 x)
 else if I.op=11 then oneZ g dd t I fun x=>subZ g dd t I 0 x false
 else if I.op=16 then stepZ g dd t I 1
 else if I.op=17 then stepZ g dd t I (-1)
 else if I.op=12∨I.op=13 then prodZ g dd t I
 else if I.op=14∨I.op=15 then quotZ g dd t I
 else if I.op=25 then timesZ g dd t I
 else if I.op=26∨I.op=27∨I.op=28∨I.op=29∨I.op=30 then shiftZ g dd t I
 else if I.op=41∨I.op=42∨I.op=43∨I.op=44∨I.op=45 then markZ g t I.op
 else moveZ g dd t I
theorem putZ_ok{g:Int→Int}{dd:Sg}{t:Sta}{o:Opd}{n v:Int}(h:astE dd t o n=0):putZ g dd t o n v=⟨0,astS t o v,astG g dd t o n v⟩:=if_pos h
theorem putZ_bad{g:Int→Int}{dd:Sg}{t:Sta}{o:Opd}{n v:Int}(h:¬astE dd t o n=0):putZ g dd t o n v=⟨2,t,g⟩:=if_neg h
theorem astG_twice(g:Int→Int)(dd:Sg)(t:Sta)(o:Opd)(n v:Int):astG (astG g dd t o n v) dd t o n v=astG g dd t o n v:=by
 unfold astG
 split
 ·exact stG_twice g dd _ n v
 ·rfl
theorem astG_no{g:Int→Int}{dd:Sg}{t:Sta}{o:Opd}{n v:Int}(h:¬astE dd t o n=0):astG g dd t o n v=g:=by
 unfold astE at h
 unfold astG
 by_cases hk:o.kind=3
 ·rw[if_pos hk]at h ⊢
  unfold stG
  rw[if_neg h]
 ·rw[if_neg hk]
end
section
open Go.ChangeShapes Go.WideShapes Go.ChangeAt Go.RowKit
set_option maxRecDepth 100000
def doL(b:Nat)(t:Sta)(I:Ins):List Value:=[.int .i64 I.op,.int .i64 I.cond,.int .i64 I.size,.int .i64 I.a.kind,.int .i64 I.a.reg,.int .i64 I.a.base,.int .i64 I.a.index,.int .i64 I.a.scale,.int .u32 I.a.disp,.int .i64 I.b.kind,.int .i64 I.b.reg,.int .i64 I.b.base,.int .i64 I.b.index,.int .i64 I.b.scale,.int .u32 I.b.disp,.int .u32 I.c,.bool I.rep,.int .i64 I.len,.pointer (some ⟨b,0,none⟩),.int .u32 (t.r 0),.int .u32 (t.r 1),.int .u32 (t.r 2),.int .u32 (t.r 3),.int .u32 (t.r 4),.int .u32 (t.r 5),.int .u32 (t.r 6),.int .u32 (t.r 7),.int .u32 t.ip,.bool t.c,.bool t.p,.bool t.z,.bool t.s,.bool t.o,.bool t.d,.int .u64 (t.x 0),.int .u64 (t.x 1),.int .u64 (t.x 2),.int .u64 (t.x 3),.int .u64 (t.x 4),.int .u64 (t.x 5),.int .u64 (t.x 6),.int .u64 (t.x 7)]
def thrown(f:Int):Ending:=.panicked [{ v:=.iface 122 (.int .i64 f),recovered:=false }]
structure DF (w1:World) (F0:Nat→Prop) (D b:Nat) (g:Int→Int) (cc dd:Sg) (t:Sta) (I:Ins) (u:World) (F:Nat→Prop):Prop where
 blk:u.heap[D]?=some (.cells (doL b t I).toArray 91 (0,0))
 bus:∃pg,PBus u b F g pg cc dd
 new:∀k,F k→F0 k∨w1.heap.size≤k
 but:But (fun k=>F0 k∨k=D) w1 u
 dl:D<w1.heap.size
 df:¬F0 D
def DM(w1:World)(F0:Nat→Prop)(D b:Nat)(g:Int→Int)(cc dd:Sg)(t:Sta)(I:Ins)(u:World):Prop:=∃F,DF w1 F0 D b g cc dd t I u F
section
variable {w1:World} {F0 F F':Nat→Prop} {D b:Nat} {g g':Int→Int} {cc dd:Sg} {t t':Sta} {I:Ins} {u u' Y:World}
theorem DF.lt(h:DF w1 F0 D b g cc dd t I u F):D<u.heap.size:=(Array.getElem?_eq_some_iff.1 h.blk).1
theorem DF.nf(h:DF w1 F0 D b g cc dd t I u F):¬F D:=fun hf=>(h.new D hf).elim h.df (fun q=>by have:=h.dl;omega)
theorem DF.below(h:DF w1 F0 D b g cc dd t I u F)(hb:Below u.heap.size u u'):DF w1 F0 D b g cc dd t I u' F:=by
 obtain⟨pg,hp⟩:=h.bus
 exact⟨(hb.block D h.lt).trans h.blk,⟨pg,hp.but (G:=fun _=>False) (But.of_below hb) (fun _ _ h=>h)⟩,h.new,h.but.trans (But.of_below (F:=fun _=>False) hb) (fun _ _ h=>h.elim),h.dl,h.df⟩
theorem DM.below(h:DM w1 F0 D b g cc dd t I u)(hb:Below u.heap.size u u'):DM w1 F0 D b g cc dd t I u':=h.imp fun _ h=>h.below hb
theorem DM.drew(h:DM w1 F0 D b g cc dd t I u):DM w1 F0 D b g cc dd t I { u with drawn:=u.drawn+1 }:=h.below ((Below.refl _ _).drew)
theorem DM.alloc(h:DM w1 F0 D b g cc dd t I u)(o:Obj):DM w1 F0 D b g cc dd t I (u.alloc o):=h.below (below_last (Below.refl _ _) _)
theorem DM.blk(h:DM w1 F0 D b g cc dd t I u):u.heap[D]?=some (.cells (doL b t I).toArray 91 (0,0)):=h.elim fun _ h=>h.blk
theorem DM.lt(h:DM w1 F0 D b g cc dd t I u):D<u.heap.size:=h.elim fun _ h=>h.lt
theorem DF.wrote(h:DF w1 F0 D b g cc dd t I u F)(hn:∀k,F' k→F k∨u.heap.size≤k)(hp:∃pg,PBus u' b F' g' pg cc dd)(hb:But F u u'):DF w1 F0 D b g' cc dd t I u' F':=by
 have hs:=h.but.size
 exact⟨(hb.block D h.lt h.nf).trans h.blk,hp,fun k hk=>(hn k hk).elim (h.new k) (fun q=>.inr (by omega)),h.but.trans hb (fun i hi hF=>.inl ((h.new i hF).resolve_right (by omega))),h.dl,h.df⟩
theorem DF.turned(h:DF w1 F0 D b g cc dd t I u F)(hb:But (·=D) u Y)(hy:Y.heap[D]?=some (.cells (doL b t' I).toArray 91 (0,0))):DF w1 F0 D b g cc dd t' I Y F:=by
 obtain⟨pg,hp⟩:=h.bus
 exact⟨hy,⟨pg,hp.but hb (fun k hk e=>h.nf (e ▸ hk))⟩,h.new,h.but.trans hb (fun i _ e=>.inr e),h.dl,h.df⟩
theorem DM.cell(h:DM w1 F0 D b g cc dd t I u)(k:Nat)(v:Value)(hY:Y=u.setCell ⟨D,k,none⟩ v)(e:(doL b t I).toArray.setIfInBounds k v=(doL b t' I).toArray):DM w1 F0 D b g cc dd t' I Y:=by
 obtain⟨F,h⟩:=h
 refine⟨F,h.turned (by rw[hY];exact(But.refl (·=D) u).setCell (a:=⟨D,k,none⟩) (fun _=>rfl) v) ?_⟩
 rw[hY,←e]
 exact block_setCell h.blk k v
theorem DM.cells(h:DM w1 F0 D b g cc dd t I u)(o:Nat)(vs:List Value)(hY:Y=u.setCells D o vs)(e:setL (doL b t I).toArray o vs=(doL b t' I).toArray):DM w1 F0 D b g cc dd t' I Y:=by
 obtain⟨F,h⟩:=h
 refine⟨F,h.turned (by rw[hY];exact(But.refl (·=D) u).cells (fun _=>rfl) _ _) ?_⟩
 rw[hY,←e]
 exact block_setCells vs o u _ h.blk
theorem DF.rebase(h:DF w1 F0 D b g cc dd t I u F):DF u F D b g cc dd t I u F:=⟨h.blk,h.bus,fun _ hk=>.inl hk,But.refl _ _,h.lt,h.nf⟩
theorem DF.back{u2:World}(h:DF w1 F0 D b g cc dd t I u F)(k:DF u F D b g' cc dd t' I u2 F'):DF w1 F0 D b g' cc dd t' I u2 F':=by
 have hs:=h.but.size
 exact⟨k.blk,k.bus,fun i hi=>(k.new i hi).elim (h.new i) (fun q=>.inr (by omega)),h.but.trans k.but (fun i hi e=>e.elim (fun q=>.inl ((h.new i q).resolve_right (by omega))) .inr),h.dl,h.df⟩
theorem DF.stays{B:Nat}{o:Obj}{u2:World}(k:DF u F D b g cc dd t I u2 F')(hB:u.heap[B]?=some o)(hF:¬F B)(hD:B≠D):u2.heap[B]?=some o:=(k.but.block B (Array.getElem?_eq_some_iff.1 hB).1 (fun e=>e.elim hF hD)).trans hB
theorem DF.fresh(h:DF w1 F0 D b g cc dd t I u F){k:Nat}(hk:u.heap.size≤k):¬F k:=fun hF=>by
 obtain⟨pg,hp⟩:=h.bus
 have:=hp.lt k hF
 omega
theorem DF.other{B:Nat}(h:DF w1 F0 D b g cc dd t I u F)(hb:But (·=B) u Y)(hF:¬F B)(hn:w1.heap.size≤B):DF w1 F0 D b g cc dd t I Y F:=by
 obtain⟨pg,hp⟩:=h.bus
 have hd:=h.dl
 exact⟨(hb.block D h.lt (fun e=>by omega)).trans h.blk,⟨pg,hp.but hb (fun k hk e=>hF (e ▸ hk))⟩,h.new,h.but.trans hb (fun i hi e=>by omega),h.dl,h.df⟩
/-! what it holds -/
theorem DM.range(h:DM w1 F0 D b g cc dd t I u)(o:Nat)(cs:List Value)(hcs:((doL b t I).drop o).take cs.length=cs):u.rangeAt D o cs:=range_part (range_block h.blk) o cs (by simpa using hcs)
theorem DM.has(h:DM w1 F0 D b g cc dd t I u)(o n:Nat)(hn:o+n≤42):u.there D o n:=there_block h.blk o n hn
theorem DM.get(h:DM w1 F0 D b g cc dd t I u)(k:Nat)(v:Value)(hv:(doL b t I)[k]?=some v):u.cell? ⟨D,k,none⟩=some v:=(cell_block h.blk k).1.trans (by simpa using hv)
theorem DM.free(h:DM w1 F0 D b g cc dd t I u)(k:Nat):u.frozen? ⟨D,k,none⟩=false:=(cell_block h.blk k).2
theorem DM.sta(h:DM w1 F0 D b g cc dd t I u):u.rangeAt D 19 (staL t):=h.range 19 _ rfl
theorem DM.opa(h:DM w1 F0 D b g cc dd t I u):u.rangeAt D 3 (opL' I.a):=h.range 3 _ rfl
theorem DM.opb(h:DM w1 F0 D b g cc dd t I u):u.rangeAt D 9 (opL' I.b):=h.range 9 _ rfl
theorem DM.fls(h:DM w1 F0 D b g cc dd t I u):u.rangeAt D 28 (flL t.c t.p t.z t.s t.o t.d):=h.range 28 _ rfl
theorem DM.op(h:DM w1 F0 D b g cc dd t I u):u.cell? ⟨D,0,none⟩=some (.int .i64 I.op):=h.get 0 _ rfl
theorem DM.cond(h:DM w1 F0 D b g cc dd t I u):u.cell? ⟨D,1,none⟩=some (.int .i64 I.cond):=h.get 1 _ rfl
theorem DM.size(h:DM w1 F0 D b g cc dd t I u):u.cell? ⟨D,2,none⟩=some (.int .i64 I.size):=h.get 2 _ rfl
theorem DM.num(h:DM w1 F0 D b g cc dd t I u):u.cell? ⟨D,15,none⟩=some (.int .u32 I.c):=h.get 15 _ rfl
theorem DM.ptr(h:DM w1 F0 D b g cc dd t I u):u.cell? ⟨D,18,none⟩=some (.pointer (some ⟨b,0,none⟩)):=h.get 18 _ rfl
theorem DM.carry(h:DM w1 F0 D b g cc dd t I u):u.cell? ⟨D,28,none⟩=some (.bool t.c):=h.get 28 _ rfl
theorem DM.dir(h:DM w1 F0 D b g cc dd t I u):u.cell? ⟨D,33,none⟩=some (.bool t.d):=h.get 33 _ rfl
/-! a whole new state;new flags -/
theorem do_state(b:Nat)(t t':Sta)(I:Ins):setL (doL b t I).toArray 19 (staL t')=(doL b t' I).toArray:=by kernel_rfl
theorem do_flags(b:Nat)(t:Sta)(I:Ins)(c p z s o d:Bool):setL (doL b t I).toArray 28 (flL c p z s o d)=(doL b (fl t c p z s o d) I).toArray:=by kernel_rfl
end
end
section
open Go.ChangeShapes Go.WideShapes Go.ChangeAt Go.RowKit
set_option maxRecDepth 100000
def endL(E V:Int):Ending:=if E=0 then .returned (.int .u32 V)else thrown 2
theorem endL_ok{E V:Int}(h:E=0):endL E V=.returned (.int .u32 V):=if_pos h
theorem endL_bad{E V:Int}(h:¬E=0):endL E V=thrown 2:=if_neg h
structure BX (w:World) (o:Opd) (w1:World) (F0:Nat→Prop) (D b:Nat) (g:Int→Int) (cc dd:Sg) (t:Sta) (I:Ins) (u:World):Prop where
 dm:DM w1 F0 D b g cc dd t I u
 box:u.heap[w.heap.size]?=some (.cells (opL' o).toArray 32 (0,0))
 bel:Below w.heap.size w u
structure DB (w:World) (w1:World) (F0:Nat→Prop) (D b:Nat) (g:Int→Int) (cc dd:Sg) (t:Sta) (I:Ins) (u:World):Prop where
 dm:DM w1 F0 D b g cc dd t I u
 bel:Below w.heap.size w u
theorem ld1{T:TypeId}{x v:Value}{u:World}(h:(Instr.loadAt T x).run Tryz.prog u=.ok v u):(do pure (.value (←Instr.loadAt T x)):Sem Next).run Tryz.prog u=.ok (.value v) u:=by
 simp only[Sem.run_bind,Sem.run_pure,Result.andThen_ok,h]
theorem lo_row{u:World}(T:TypeId)(d:TypeDesc)(hu:Tryz.prog.underlying T=some d)(hd:d.isRow=true){B o:Nat}{cs:List Value}(hi:(Tryz.prog.info? T).map (·.size)=some cs.length)(h:u.rangeAt B o cs):(Instr.loadAt T (.pointer (some ⟨B,o,none⟩))).run Tryz.prog u=.ok (.agg cs.toArray) u:=by
 simp only[Instr.loadAt,Instr.sureAddr,Sem.run_bind,Sem.run_pure,Result.andThen_ok,load_range (P:=Tryz.prog) T d hu hd hi h]
section
variable {w w1:World} {F0:Nat→Prop} {D b:Nat} {g:Int→Int} {cc dd:Sg} {t:Sta} {I:Ins} {u u':World} {o:Opd}
theorem BX.below(h:BX w o w1 F0 D b g cc dd t I u)(hb:Below u.heap.size u u'):BX w o w1 F0 D b g cc dd t I u':=⟨h.dm.below hb,(hb.block _ (Array.getElem?_eq_some_iff.1 h.box).1).trans h.box,below_step h.bel hb⟩
theorem BX.rb(h:BX w o w1 F0 D b g cc dd t I u):u.rangeAt w.heap.size 0 (opL' o):=range_in13 h.box 0 _ rfl
theorem DB.below(h:DB w w1 F0 D b g cc dd t I u)(hb:Below u.heap.size u u'):DB w w1 F0 D b g cc dd t I u':=⟨h.dm.below hb,below_step h.bel hb⟩
theorem DB.start(h:DM w1 F0 D b g cc dd t I w):DB w w1 F0 D b g cc dd t I { w with drawn:=w.drawn+1 }:=⟨h.drew,(Below.refl _ _).drew⟩
theorem lo_a(h:DM w1 F0 D b g cc dd t I u):(Instr.loadAt 32 (.pointer (some ⟨D,3,none⟩))).run Tryz.prog u=.ok (.agg (opL' I.a).toArray) u:=lo_row _ _ Tryz.underlying32 rfl info_opd1 h.opa
theorem lo_b(h:DM w1 F0 D b g cc dd t I u):(Instr.loadAt 32 (.pointer (some ⟨D,9,none⟩))).run Tryz.prog u=.ok (.agg (opL' I.b).toArray) u:=lo_row _ _ Tryz.underlying32 rfl info_opd1 h.opb
theorem lo_sta(h:DM w1 F0 D b g cc dd t I u):(Instr.loadAt 29 (.pointer (some ⟨D,19,none⟩))).run Tryz.prog u=.ok (.agg (staL t).toArray) u:=lo_row _ _ Tryz.underlying29 rfl info_sta h.sta
theorem lo_fls(h:DM w1 F0 D b g cc dd t I u):(Instr.loadAt 25 (.pointer (some ⟨D,28,none⟩))).run Tryz.prog u=.ok (.agg (flL t.c t.p t.z t.s t.o t.d).toArray) u:=lo_row _ _ Tryz.underlying25 rfl info_fl15 h.fls
theorem lo_op(h:DM w1 F0 D b g cc dd t I u):(Instr.loadAt 3 (.pointer (some ⟨D,0,none⟩))).run Tryz.prog u=.ok (.int .i64 I.op) u:=by simp[go_sem,h.op]
theorem lo_cond(h:DM w1 F0 D b g cc dd t I u):(Instr.loadAt 3 (.pointer (some ⟨D,1,none⟩))).run Tryz.prog u=.ok (.int .i64 I.cond) u:=by simp[go_sem,h.cond]
theorem lo_size(h:DM w1 F0 D b g cc dd t I u):(Instr.loadAt 3 (.pointer (some ⟨D,2,none⟩))).run Tryz.prog u=.ok (.int .i64 I.size) u:=by simp[go_sem,h.size]
theorem lo_num(h:DM w1 F0 D b g cc dd t I u):(Instr.loadAt 22 (.pointer (some ⟨D,15,none⟩))).run Tryz.prog u=.ok (.int .u32 I.c) u:=by simp[go_sem,h.num]
theorem lo_r0(h:DM w1 F0 D b g cc dd t I u):(Instr.loadAt 22 (.pointer (some ⟨D,19,none⟩))).run Tryz.prog u=.ok (.int .u32 (t.r 0)) u:=by simp[go_sem,h.get 19 _ rfl]
theorem lo_r2(h:DM w1 F0 D b g cc dd t I u):(Instr.loadAt 22 (.pointer (some ⟨D,21,none⟩))).run Tryz.prog u=.ok (.int .u32 (t.r 2)) u:=by simp[go_sem,h.get 21 _ rfl]
theorem lo_bus(h:DM w1 F0 D b g cc dd t I u):(Instr.loadAt 46 (.pointer (some ⟨D,18,none⟩))).run Tryz.prog u=.ok (.pointer (some ⟨b,0,none⟩)) u:=by simp[go_sem,h.ptr]
theorem dm_load(ht:StaOk t)(d0:0≤o.disp)(d1:o.disp<4294967296)(size:Int)(u:World)(h:DM w1 F0 D b g cc dd t I u):Calls Tryz.prog 122 #[.pointer (some ⟨b,0,none⟩),.agg (staL t).toArray,.agg (opL' o).toArray,.int .i64 size] u fun e u'=>e=.returned (.tuple #[.int .u64 (aldV g dd t o size),.int .i64 (aldE dd t o size)])∧Below u.heap.size u u':=by
 obtain⟨F,hF⟩:=h
 obtain⟨pg,hp⟩:=hF.bus
 exact aload_any b F g pg cc dd t o size ht d0 d1 u hp
end
set_option maxHeartbeats 8000000
theorem load_any15{w1:World}{F0:Nat→Prop}{D b:Nat}{g:Int→Int}{cc dd:Sg}{t:Sta}{I:Ins}(ht:StaOk t)(o:Opd)(d0:0≤o.disp)(d1:o.disp<4294967296)(size:Int)(w:World)(hD:DM w1 F0 D b g cc dd t I w):
  Calls Tryz.prog 89 #[.pointer (some ⟨D,0,none⟩),opV o,.int .i64 size] w fun e w'=>e=endL (aldE dd t o size) (lodV g dd t o size)∧Below w.heap.size w w':=by
 have HLD:=Lib.hid (fun u (h:DM w1 F0 D b g cc dd t I u)=>dm_load ht d0 d1 size u h)
 obtain⟨E,hE⟩:∃E,aldE dd t o size=E:=⟨_,rfl⟩
 obtain⟨X,hX⟩:∃X,aldV g dd t o size=X:=⟨_,rfl⟩
 have hV:lodV g dd t o size=cut X size:=by rw[←hX];rfl
 rw[hV]
 rw[hE,hX]at HLD
 rw[hE]
 have HD:=Lib.hid hD
 have HC:=Lib.hid (cut_cut32 X size)
 clear hE hX hV ht d0 d1 hD
 rw[show opV o=.agg #[.int .i64 o.kind,.int .i64 o.reg,.int .i64 o.base,.int .i64 o.index,.int .i64 o.scale,.int .u32 o.disp]from rfl]
 go_enter Tryz.func89,Tryz.ntmps89
 go_upto_region 1 with fail
 obtain⟨W,hW⟩:∃W,W=w.alloc (.cells #[.int .i64 o.kind,.int .i64 o.reg,.int .i64 o.base,.int .i64 o.index,.int .i64 o.scale,.int .u32 o.disp] 32):=⟨_,rfl⟩
 rw[←hW]
 have HI:=Lib.hid (show BX w o w1 F0 D b g cc dd t I W by rw[hW];exact⟨HD.out.alloc _,by show(w.heap.push _)[w.heap.size]?=_;simp[opL'],below_last (Below.refl _ _) _⟩)
 clear hW
 refine wp_region_auto (by kernel_rfl) (fun n=>false) (by kernel_rfl) (BX w o w1 F0 D b g cc dd t I) [some (.pointer (some ⟨D,0,none⟩)),some (.pointer (some ⟨D,0,none⟩)),some (.pointer (some ⟨D,18,none⟩)),some (.pointer (some ⟨b,0,none⟩)),some (.pointer (some ⟨D,0,none⟩)),some (.pointer (some ⟨D,0,none⟩)),some (.pointer (some ⟨D,19,none⟩)),some (.agg (staL t).toArray),some (.agg (opL' o).toArray),some (.int .i64 (size)),some (.tuple #[.int .u64 X,.int .i64 (E)]),some (.tuple #[.int .u64 X,.int .i64 (E)]),some (.int .u64 X),some (.int .i64 (E)),some (.int .u64 X),some (.int .i64 (E))]
  [(1,0,10),(2,1,11),(3,2,12),(5,4,14),(6,5,15),(7,6,16),(11,10,20),(12,11,9),(13,11,9),(14,12,21),(15,13,22)] [(0,0),(4,0),(8,4),(9,2)] [10] (by decide) ?_ ?_ (HI.out.below ((Below.refl _ _).drew)) ?_ ?_
 ·repeat' apply And.intro
  all_goals first
   |trivial
   |exact⟨_,rfl,by kernel_rfl,rfl,rfl,rfl,fun _=>rfl,fun _ h=>⟨_,rfl,fun _ _=>by cases h;rfl⟩⟩
   |exact⟨_,rfl,by kernel_rfl,rfl,rfl,rfl,fun _=>rfl,fun _ h=>⟨_,rfl,fun _ hu=>by cases h;exact ld1 (lo_bus hu.dm)⟩⟩
   |exact⟨_,rfl,by kernel_rfl,rfl,rfl,rfl,fun _=>rfl,fun _ h=>⟨_,rfl,fun _ hu=>by cases h;exact ld1 (lo_sta hu.dm)⟩⟩
 ·repeat' apply And.intro
  all_goals first
   |trivial
   |exact⟨_,rfl,by kernel_rfl,rfl,fun _=>rfl,_,rfl,fun _ _=>rfl⟩
   |exact⟨_,rfl,by kernel_rfl,rfl,fun _=>rfl,_,rfl,fun _ hu=>ld1 (lo_row _ _ Tryz.underlying32 rfl info_opd1 hu.rb)⟩
 ·intro n op f u hn ho hinv hdf hbase hdep
  obtain rfl:n=10:=by simpa using hn
  ·cases ho
   have e13:f.tmps.getD 13 undef=.pointer (some ⟨b,0,none⟩):=tab_at (hdep 3 (by kernel_rfl))
   have e17:f.tmps.getD 17 undef=.agg (staL t).toArray:=tab_at (hdep 7 (by kernel_rfl))
   have e18:f.tmps.getD 18 undef=.agg (opL' o).toArray:=tab_at (hdep 8 (by kernel_rfl))
   have e19:f.tmps.getD 19 undef=.int .i64 (size):=tab_at (hdep 9 (by kernel_rfl))
   refine wp_call (by simp[execOp,Act.eval,e13,e17,e18,e19,go_sem]<;>rfl) ((HLD.out u hinv.dm).mono ?_)
   rintro e u2 ⟨rfl,hb⟩
   exact⟨_,rfl,_,rfl,hinv.below hb,rfl⟩
 ·intro f u hinv hV
  have q14:f 14=.int .u64 X:=tab_at (hV 14 (by decide))
  have q15:f 15=.int .i64 (E):=tab_at (hV 15 (by decide))
  clear hV
  simp only[List.size_toArray,List.length_cons,List.length_nil,Nat.reduceAdd,laid,List.getElem?_toArray,List.getElem?_cons_zero,List.getElem?_cons_succ,Option.bind_some,Act.put,List.setIfInBounds_toArray,List.set_cons_zero,List.set_cons_succ,q14,q15]
  clear q14 q15
  have HI:=Lib.hid hinv.bel
  have HC:=Lib.hid HC.out
  clear hinv
  by_cases hE:E=0
  ·subst hE
   go_wp2_with fail
   ((with_reducible refine(cut_any _ _ _).mono ?_);rintro e w' ⟨rfl,rfl⟩)
   rw[HC.out]
   go_wp2_with fail
   go_ret
   exact⟨(endL_ok rfl).symm,HI.out⟩
  ·have e1:(E != 0)=true:=by simpa using hE
   have e2:(E==0)=false:=by simpa using hE
   have HR:=Lib.hid (endL_bad (V:=cut X size) hE)
   clear hE
   go_wp2_with fail
   exact⟨rfl,HR.out.symm,HI.out⟩
theorem first_any15{w1:World}{F0:Nat→Prop}{D b:Nat}{g:Int→Int}{cc dd:Sg}{t:Sta}{I:Ins}(ht:StaOk t)(d0:0≤I.a.disp)(d1:I.a.disp<4294967296)(w:World)(hD:DM w1 F0 D b g cc dd t I w):
  Calls Tryz.prog 65 #[.pointer (some ⟨D,0,none⟩)] w fun e w'=>e=endL (aldE dd t I.a I.size) (lodV g dd t I.a I.size)∧Below w.heap.size w w':=by
 have HLD:=Lib.hid (fun u (h:DM w1 F0 D b g cc dd t I u)=>load_any15 ht I.a d0 d1 I.size u h)
 obtain⟨E,hE⟩:∃E,aldE dd t I.a I.size=E:=⟨_,rfl⟩
 obtain⟨X,hX⟩:∃X,lodV g dd t I.a I.size=X:=⟨_,rfl⟩
 rw[hE,hX]at HLD
 rw[hE,hX]
 rw[show opV I.a=.agg (opL' I.a).toArray from rfl]at HLD
 have HD:=Lib.hid hD
 clear hE hX ht d0 d1 hD
 obtain⟨XO,hXO⟩:∃XO:Option Value,(E=0∧XO=some (.int .u32 X))∨(¬E=0∧XO=none):=by
  by_cases h:E=0
  ·exact⟨_,.inl ⟨h,rfl⟩⟩
  ·exact⟨_,.inr ⟨h,rfl⟩⟩
 have HX:=Lib.hid hXO
 clear hXO
 go_enter Tryz.func65,Tryz.ntmps65
 go_wp2_with fail
 refine wp_region_auto (by kernel_rfl) (fun n=>false) (by kernel_rfl) (DB w w1 F0 D b g cc dd t I) [some (.pointer (some ⟨D,0,none⟩)),some (.pointer (some ⟨D,0,none⟩)),some (.pointer (some ⟨D,0,none⟩)),some (.pointer (some ⟨D,0,none⟩)),some (.pointer (some ⟨D,3,none⟩)),some (.agg (opL' I.a).toArray),some (.pointer (some ⟨D,0,none⟩)),some (.pointer (some ⟨D,0,none⟩)),some (.pointer (some ⟨D,0,none⟩)),some (.pointer (some ⟨D,2,none⟩)),some (.int .i64 (I.size)),XO,XO]
  [(2,1,4),(3,2,5),(4,3,6),(5,4,7),(7,6,9),(8,7,10),(9,8,11),(10,9,12),(12,11,14)] [(0,0),(1,0),(6,0)] [11] (by decide) ?_ ?_ (DB.start HD.out) ?_ ?_
 ·repeat' apply And.intro
  all_goals first
   |trivial
   |exact⟨_,rfl,by kernel_rfl,rfl,rfl,rfl,fun _=>rfl,fun _ h=>⟨_,rfl,fun _ _=>by cases h;rfl⟩⟩
   |exact⟨_,rfl,by kernel_rfl,rfl,rfl,rfl,fun _=>rfl,fun _ h=>⟨_,h,fun _ _=>rfl⟩⟩
   |exact⟨_,rfl,by kernel_rfl,rfl,rfl,rfl,fun _=>rfl,fun _ h=>⟨_,rfl,fun _ hu=>by cases h;exact ld1 (lo_a hu.dm)⟩⟩
   |exact⟨_,rfl,by kernel_rfl,rfl,rfl,rfl,fun _=>rfl,fun _ h=>⟨_,rfl,fun _ hu=>by cases h;exact ld1 (lo_size hu.dm)⟩⟩
 ·repeat' apply And.intro
  all_goals first
   |trivial
   |exact⟨_,rfl,by kernel_rfl,rfl,fun _=>rfl,_,rfl,fun _ _=>rfl⟩
 ·intro n op f u hn ho hinv hdf hbase hdep
  obtain rfl:n=11:=by simpa using hn
  ·cases ho
   have e3:f.tmps.getD 3 undef=.pointer (some ⟨D,0,none⟩):=tab_at (hdep 0 (by kernel_rfl))
   have e8:f.tmps.getD 8 undef=.agg (opL' I.a).toArray:=tab_at (hdep 5 (by kernel_rfl))
   have e13:f.tmps.getD 13 undef=.int .i64 (I.size):=tab_at (hdep 10 (by kernel_rfl))
   rcases HX.out with⟨hE,hX⟩|⟨hE,hX⟩
   ·refine wp_call (by simp[execOp,Act.eval,e3,e8,e13,go_sem]<;>rfl) ((HLD.out u hinv.dm).mono ?_)
    rintro e u2 ⟨rfl,hb⟩
    rw[endL_ok hE]
    exact⟨_,rfl,_,rfl,hinv.below hb,hX⟩
   ·refine wp_call_or (by simp[execOp,Act.eval,e3,e8,e13,go_sem]<;>rfl) ((HLD.out u hinv.dm).mono ?_)
    rintro e u2 ⟨rfl,hb⟩
    exact .inr ⟨_,endL_bad hE,hdf,(endL_bad hE).symm,(hinv.below hb).bel⟩
 ·intro f u hinv hV
  have hx:XO=some (f 12):=hV 12 (by decide)
  rcases HX.out with⟨hE,hX⟩|⟨_,hX⟩
  ·have q12:f 12=.int .u32 X:=tab_at (hX.symm.trans hx)
   have HR:=Lib.hid (endL_ok (V:=X) hE)
   have HI:=Lib.hid hinv.bel
   clear hV hx hE hX hinv
   simp only[List.size_toArray,List.length_cons,List.length_nil,Nat.reduceAdd,laid,List.getElem?_toArray,List.getElem?_cons_zero,List.getElem?_cons_succ,Option.bind_some,Act.put,List.setIfInBounds_toArray,List.set_cons_zero,List.set_cons_succ,q12]
   clear q12
   go_wp2_with fail
   go_ret
   exact⟨HR.out.symm,HI.out⟩
  ·rw[hX]at hx
   cases hx
theorem second_any15{w1:World}{F0:Nat→Prop}{D b:Nat}{g:Int→Int}{cc dd:Sg}{t:Sta}{I:Ins}(ht:StaOk t)(d0:0≤I.b.disp)(d1:I.b.disp<4294967296)(w:World)(hD:DM w1 F0 D b g cc dd t I w):
  Calls Tryz.prog 97 #[.pointer (some ⟨D,0,none⟩)] w fun e w'=>e=endL (aldE dd t I.b I.size) (lodV g dd t I.b I.size)∧Below w.heap.size w w':=by
 have HLD:=Lib.hid (fun u (h:DM w1 F0 D b g cc dd t I u)=>load_any15 ht I.b d0 d1 I.size u h)
 obtain⟨E,hE⟩:∃E,aldE dd t I.b I.size=E:=⟨_,rfl⟩
 obtain⟨X,hX⟩:∃X,lodV g dd t I.b I.size=X:=⟨_,rfl⟩
 rw[hE,hX]at HLD
 rw[hE,hX]
 rw[show opV I.b=.agg (opL' I.b).toArray from rfl]at HLD
 have HD:=Lib.hid hD
 clear hE hX ht d0 d1 hD
 obtain⟨XO,hXO⟩:∃XO:Option Value,(E=0∧XO=some (.int .u32 X))∨(¬E=0∧XO=none):=by
  by_cases h:E=0
  ·exact⟨_,.inl ⟨h,rfl⟩⟩
  ·exact⟨_,.inr ⟨h,rfl⟩⟩
 have HX:=Lib.hid hXO
 clear hXO
 go_enter Tryz.func97,Tryz.ntmps97
 go_wp2_with fail
 refine wp_region_auto (by kernel_rfl) (fun n=>false) (by kernel_rfl) (DB w w1 F0 D b g cc dd t I) [some (.pointer (some ⟨D,0,none⟩)),some (.pointer (some ⟨D,0,none⟩)),some (.pointer (some ⟨D,0,none⟩)),some (.pointer (some ⟨D,0,none⟩)),some (.pointer (some ⟨D,9,none⟩)),some (.agg (opL' I.b).toArray),some (.pointer (some ⟨D,0,none⟩)),some (.pointer (some ⟨D,0,none⟩)),some (.pointer (some ⟨D,0,none⟩)),some (.pointer (some ⟨D,2,none⟩)),some (.int .i64 (I.size)),XO,XO]
  [(2,1,4),(3,2,5),(4,3,6),(5,4,7),(7,6,9),(8,7,10),(9,8,11),(10,9,12),(12,11,14)] [(0,0),(1,0),(6,0)] [11] (by decide) ?_ ?_ (DB.start HD.out) ?_ ?_
 ·repeat' apply And.intro
  all_goals first
   |trivial
   |exact⟨_,rfl,by kernel_rfl,rfl,rfl,rfl,fun _=>rfl,fun _ h=>⟨_,rfl,fun _ _=>by cases h;rfl⟩⟩
   |exact⟨_,rfl,by kernel_rfl,rfl,rfl,rfl,fun _=>rfl,fun _ h=>⟨_,h,fun _ _=>rfl⟩⟩
   |exact⟨_,rfl,by kernel_rfl,rfl,rfl,rfl,fun _=>rfl,fun _ h=>⟨_,rfl,fun _ hu=>by cases h;exact ld1 (lo_b hu.dm)⟩⟩
   |exact⟨_,rfl,by kernel_rfl,rfl,rfl,rfl,fun _=>rfl,fun _ h=>⟨_,rfl,fun _ hu=>by cases h;exact ld1 (lo_size hu.dm)⟩⟩
 ·repeat' apply And.intro
  all_goals first
   |trivial
   |exact⟨_,rfl,by kernel_rfl,rfl,fun _=>rfl,_,rfl,fun _ _=>rfl⟩
 ·intro n op f u hn ho hinv hdf hbase hdep
  obtain rfl:n=11:=by simpa using hn
  ·cases ho
   have e3:f.tmps.getD 3 undef=.pointer (some ⟨D,0,none⟩):=tab_at (hdep 0 (by kernel_rfl))
   have e8:f.tmps.getD 8 undef=.agg (opL' I.b).toArray:=tab_at (hdep 5 (by kernel_rfl))
   have e13:f.tmps.getD 13 undef=.int .i64 (I.size):=tab_at (hdep 10 (by kernel_rfl))
   rcases HX.out with⟨hE,hX⟩|⟨hE,hX⟩
   ·refine wp_call (by simp[execOp,Act.eval,e3,e8,e13,go_sem]<;>rfl) ((HLD.out u hinv.dm).mono ?_)
    rintro e u2 ⟨rfl,hb⟩
    rw[endL_ok hE]
    exact⟨_,rfl,_,rfl,hinv.below hb,hX⟩
   ·refine wp_call_or (by simp[execOp,Act.eval,e3,e8,e13,go_sem]<;>rfl) ((HLD.out u hinv.dm).mono ?_)
    rintro e u2 ⟨rfl,hb⟩
    exact .inr ⟨_,endL_bad hE,hdf,(endL_bad hE).symm,(hinv.below hb).bel⟩
 ·intro f u hinv hV
  have hx:XO=some (f 12):=hV 12 (by decide)
  rcases HX.out with⟨hE,hX⟩|⟨_,hX⟩
  ·have q12:f 12=.int .u32 X:=tab_at (hX.symm.trans hx)
   have HR:=Lib.hid (endL_ok (V:=X) hE)
   have HI:=Lib.hid hinv.bel
   clear hV hx hE hX hinv
   simp only[List.size_toArray,List.length_cons,List.length_nil,Nat.reduceAdd,laid,List.getElem?_toArray,List.getElem?_cons_zero,List.getElem?_cons_succ,Option.bind_some,Act.put,List.setIfInBounds_toArray,List.set_cons_zero,List.set_cons_succ,q12]
   clear q12
   go_wp2_with fail
   go_ret
   exact⟨HR.out.symm,HI.out⟩
  ·rw[hX]at hx
   cases hx
end
section
open Go Go.RowKit
section
variable {γ:Type} {P:Program} {ops:Array Oper} {nod:Nat→Bool} {tab:List (Option Value)} {Q:Exit→Act→World→Prop} {a b:Act} {u:World}
set_option maxRecDepth 100000
def KeptB(Fr:World→γ→Nat→Prop)(T:TypeId)(cs:List Value)(E:World→γ→Prop)(u:World)(F:γ)(u':World)(F':γ):Prop:=
 (E u F→E u' F')∧∀B,Fr u F B→Fr u' F' B∧(∀C0,u.heap[B]?=some (.cells C0 T (0,0))→C0.size=cs.length→∃C1,u'.heap[B]?=some (.cells C1 T (0,0))∧C1.size=cs.length)∧(u.heap[B]?=some (.cells cs.toArray T (0,0))→u'.heap[B]?=some (.cells cs.toArray T (0,0)))
theorem KeptB.refl(Fr:World→γ→Nat→Prop)(T:TypeId)(cs:List Value)(E:World→γ→Prop)(u:World)(F:γ):KeptB Fr T cs E u F u F:=⟨id,fun _ h=>⟨h,fun C0 h1 h2=>⟨C0,h1,h2⟩,id⟩⟩
theorem KeptB.of{Fr:World→γ→Nat→Prop}{T:TypeId}{cs:List Value}{E:World→γ→Prop}{u u':World}{F F':γ}(hE:E u F→E u' F')(h:∀B,Fr u F B→Fr u' F' B∧u'.heap[B]?=u.heap[B]?):KeptB Fr T cs E u F u' F':=
 ⟨hE,fun B hB=>⟨(h B hB).1,fun C0 h1 h2=>⟨C0,(h B hB).2.trans h1,h2⟩,fun h1=>(h B hB).2.trans h1⟩⟩
def MadeP(nod:Nat→Bool)(tab:List (Option Value))(Fr:World→γ→Nat→Prop)(T:TypeId)(cs:List Value)(E:World→γ→Prop)(ka ks kc:Nat)(i:Nat)(f:Nat→Value)(u:World)(F:γ):Prop:=
 if i=ka then ∃B C0,left nod f ka=.pointer (some ⟨B,0,none⟩)∧Fr u F B∧u.heap[B]?=some (.cells C0 T (0,0))∧C0.size=cs.length
 else if i=ks then ∃B,left nod f ka=.pointer (some ⟨B,0,none⟩)∧Fr u F B∧u.heap[B]?=some (.cells cs.toArray T (0,0))
 else tabAt tab i=some (left nod f i)∧(i=kc→E u F)
theorem setL_get(C:Array Value):∀(cs:List Value) (o:Nat),o+cs.length≤C.size→∀k,(setL C o cs)[k]?=if o≤k∧k<o+cs.length then cs[k-o]? else C[k]?
 |[],o,_,k=>by
  show C[k]?=_
  rw[if_neg (by rintro⟨h1,h2⟩;rw[List.length_nil]at h2;omega)]
 |v :: cs,o,h,k=>by
  simp only[List.length_cons]at h
  show(setL (C.setIfInBounds o v) (o+1) cs)[k]?=_
  rw[setL_get (C.setIfInBounds o v) cs (o+1) (by simp;omega) k,Array.getElem?_setIfInBounds]
  by_cases h1:k=o
  ·subst h1
   rw[if_neg (by omega),if_pos rfl,if_pos (by omega),if_pos (by simp)]
   simp
  ·by_cases h2:o+1≤k∧k<o+1+cs.length
   ·rw[if_pos h2,if_pos (by simp;omega)]
    obtain⟨m,rfl⟩:∃m,k=o+1+m:=⟨k-(o+1),by omega⟩
    rw[show o+1+m-o=m+1 by omega,show o+1+m-(o+1)=m by omega]
    rfl
   ·rw[if_neg h2,if_neg (fun e=>h1 e.symm),if_neg (by simp;omega)]
theorem setL_full{C:Array Value}{cs:List Value}(h:C.size=cs.length):setL C 0 cs=cs.toArray:=by
 apply Array.ext_getElem?
 intro k
 rw[setL_get C cs 0 (by omega) k]
 by_cases hk:k<cs.length
 ·rw[if_pos (by omega)]
  simp
 ·rw[if_neg (by omega),Array.getElem?_eq_none (by omega),Array.getElem?_eq_none (by simp;omega)]
theorem wp_region_made(hm:P.follows .mixedOrders=true){id:Nat}{w:World}(nod:Nat→Bool)(ka ks kc:Nat)(hks:nod ks=true)(hka:nod ka=false)(hne:ks≠ka)(hkc:kc≠ka∧kc≠ks)
  (hfit:fitDraw ops (fun i=>if i=ks then[ka]else if nod i then[]else[i]) a.tmps.size=true)
  (C:World→γ→Prop) (F0:γ) (Fr:World→γ→Nat→Prop) (E:World→γ→Prop) (T:TypeId) (cs:List Value) (hi:(P.info? T).map (·.size)=some cs.length) (h1:cs.toArray.all (·.oneCell')=true)
  (tab:List (Option Value)) (D:List (Nat×Nat×Nat)) (B:List (Nat×Nat)) (R:List Nat) (hall:(List.range ops.size).all (fun i=>D.any (fun p=>p.1==i) || B.any (fun p=>p.1==i) || (ka :: ks :: R).contains i)=true)
  (hR:R.all (fun i=>i != ka&&i != ks)=true) (hDk:D.all (fun p=>p.1 != ka&&p.1 != ks&&p.2.1 != ka&&p.2.1 != ks&&p.1 != kc)=true) (hBk:B.all (fun p=>p.1 != ka&&p.1 != ks&&p.1 != kc)=true)
  (hD:AllD P ops nod (fun u=>∃F,C u F) tab D) (hB:AllB P ops nod (fun u=>∃F,C u F) tab a B) (h0:C { w with drawn:=w.drawn+1 } F0)
  (oa os:Oper) (hoa:ops[ka]?=some oa) (hos:ops[ks]?=some os) (Z:Array Value) (hZ:Z.size=cs.length) (hra:∀(b:Act) (u:World),(execOp b.eval oa).run P u=.ok (.value (.pointer (some ⟨u.heap.size,0,none⟩))) (u.alloc (.cells Z T)))
  (ta tv jv:Nat) (hst:os.op=.store T (.tmp ta) (.tmp tv)) (hta:(ops[ka]?).bind (·.dst)=some ta) (htv:(ops[jv]?).bind (·.dst)=some tv) (hna:need os ka=true) (hnv:need os jv=true) (hjv:jv≠ka∧jv≠ks∧nod jv=false) (htab:tabAt tab jv=none∨tabAt tab jv=some (.agg cs.toArray)) (hosd:os.dst=none)
  (halloc:∀u F,C u F→C (u.alloc (.cells Z T)) F∧Fr (u.alloc (.cells Z T)) F u.heap.size∧KeptB Fr T cs E u F (u.alloc (.cells Z T)) F)
  (hstore:∀u F B,C u F→Fr u F B→C (u.setCells B 0 cs) F∧(E u F→E (u.setCells B 0 cs) F)∧∀B',Fr u F B'→Fr (u.setCells B 0 cs) F B')
  (step:∀(i:Nat) (o:Oper) (b:Act) (u:World) (F:γ),i∈R→ops[i]?=some o→C u F→b.defers=a.defers→(∀t,noDst ops t=true→b.tmps.getD t undef=a.tmps.getD t undef) →
   (∀j,j≠ka→j≠ks→need o j=true→tabAt tab j=some (left nod (got ops b) j)) →
   o.wp P b u (fun b' u'=>∃v F',b'=b.put o.dst v∧C u' F'∧KeptB Fr T cs E u F u' F'∧tabAt tab i=some (if nod i then undef else v)∧(i=kc→E u' F')) Q)
  (fin:∀(f:Nat→Value) u F,C u F→E u F→(∀i,i<ops.size→i≠ka→i≠ks→tabAt tab i=some (left nod f i))→(∃B,f ka=.pointer (some ⟨B,0,none⟩)∧Fr u F B∧u.heap[B]?=some (.cells cs.toArray T (0,0)))→Q .normal (laid ops f a ops.size) u) (hkcs:kc<ops.size):
  (Code.region id ops true).wp P Q a w:=by
 have hsz:∀(i:Nat) (o:Oper) (t:Tmp),ops[i]?=some o→o.dst=some t→t<a.tmps.size:=fun _ _ t ho hd=>((fitDraw_at hfit ho).2.1 t hd).1
 have hkas:ka<ops.size:=(Array.getElem?_eq_some_iff.1 hoa).1
 have hkss:ks<ops.size:=(Array.getElem?_eq_some_iff.1 hos).1
 refine wp_region_any hm (wpAny_midG (a0:=a) (Inv:=C) (G:=KeptB Fr T cs E) (p:=MadeP nod tab Fr T cs E ka ks kc) (look:=fun i=>if i=ks then[ka]else if nod i then[]else[i]) (fun _ _ _ _ t hi hj hd he=>((fitDraw_at hfit hj).2.1 t he).2 _ _ hi hd) hsz (fun _ _ ho=>(fitDraw_at hfit ho).2.2.1) (fun _ _ k ho hk=>(fitDraw_at hfit ho).2.2.2 k hk) ?_ (KeptB.refl Fr T cs E) ?_ ?_ ops.size _ a _ F0 ?_ ⟨by simp,rfl,rfl,fun _ _=>rfl,h0,?_,?_⟩)
 ·intro i f f' u F u' F' h hl hg
  unfold MadeP at h ⊢
  by_cases e1:i=ka
  ·subst e1
   rw[if_pos rfl]at h ⊢
   obtain⟨B,C0,q1,q2,q3,q4⟩:=h
   obtain⟨C1,q5,q6⟩:=(hg.2 B q2).2.1 C0 q3 q4
   have ef:f i=f' i:=hl i (by simp[hne.symm,hka])
   exact⟨B,C1,by unfold left at q1 ⊢;rw[←ef];exact q1,(hg.2 B q2).1,q5,q6⟩
  ·rw[if_neg e1]at h ⊢
   by_cases e2:i=ks
   ·rw[if_pos e2]at h ⊢
    obtain⟨B,q1,q2,q3⟩:=h
    have ef:f ka=f' ka:=hl ka (by simp[e2])
    exact⟨B,by unfold left at q1 ⊢;rw[←ef];exact q1,(hg.2 B q2).1,(hg.2 B q2).2.2 q3⟩
   ·rw[if_neg e2]at h ⊢
    refine⟨?_,fun e=>hg.1 (h.2 e)⟩
    have e:left nod f i=left nod f' i:=by
     unfold left
     by_cases hn:nod i=true
     ·rw[if_pos hn,if_pos hn]
     ·rw[if_neg hn,if_neg hn]
      exact hl i (by simp[e2,hn])
    rw[←e]
    exact h.1
 ·intro i o b u F ho hC _ hdf hb hd
  refine wpOp_free ho (fitDraw_at hfit ho).1 ?_
  have hd':∀j,j≠ka→j≠ks→need o j=true→tabAt tab j=some (left nod (got ops b) j):=fun j j1 j2 hj=>by
   obtain⟨e,he,h4,hon⟩:=need_at hj
   have:=hd e he h4
   unfold MadeP at this
   rw[hon,if_neg j1,if_neg j2]at this
   exact this.1
  have hb':∀t,noDst ops t=true→b.tmps.getD t undef=a.tmps.getD t undef:=fun t ht=>hb t (noDst_at ht)
  have tell:∀{v:Value} {u':World} {F':γ},i≠ka→i≠ks→tabAt tab i=some (if nod i then undef else v)→(i=kc→E u' F')→MadeP nod tab Fr T cs E ka ks kc i (fun k=>if k=i then v else got ops b k) u' F':=fun{v u' F'} e1 e2 ht hE=>by
   unfold MadeP
   rw[if_neg e1,if_neg e2]
   refine⟨?_,hE⟩
   rw[ht]
   unfold left
   simp
  have same:∀{v:Value},i≠ka→i≠ks→i≠kc→nod i=false→tabAt tab i=some v→(execOp b.eval o).run P u=.ok (.value v) u→o.wp P b u (fun b' u'=>∃v F',b'=b.put o.dst v∧C u' F'∧KeptB Fr T cs E u F u' F'∧MadeP nod tab Fr T cs E ka ks kc i (fun k=>if k=i then v else got ops b k) u' F') Q:=fun{v} e1 e2 e3 hn ht hr=>
   wp_val hr ⟨v,F,rfl,hC,KeptB.refl _ _ _ _ _ _,tell e1 e2 (by rw[hn];exact ht) (fun e=>absurd e e3)⟩
  rcases auto_or hall (Array.getElem?_eq_some_iff.1 ho).1 with⟨p,hp,rfl⟩|⟨p,hp,rfl⟩|hR2
  ·have hk:=List.all_eq_true.1 hDk p hp
   simp only[Bool.and_eq_true,bne_iff_ne,ne_eq]at hk
   obtain⟨v,g4,hv,hr⟩:=auto_d (all_d hD p hp) ho ⟨F,hC⟩ (hd' _ hk.1.1.2 hk.1.2)
   exact same hk.1.1.1.1 hk.1.1.1.2 hk.2 g4 hv hr
  ·have hk:=List.all_eq_true.1 hBk p hp
   simp only[Bool.and_eq_true,bne_iff_ne,ne_eq]at hk
   obtain⟨v,g4,hv,hr⟩:=auto_b (all_b hB p hp) ho ⟨F,hC⟩ hb'
   exact same hk.1.1 hk.1.2 hk.2 g4 hv hr
  ·rcases List.mem_cons.1 hR2 with rfl|hR2
   ·rw[hoa]at ho
    cases ho
    obtain⟨q1,q2,q3⟩:=halloc u F hC
    refine wp_val (hra b u) ⟨_,F,rfl,q1,q3,?_⟩
    unfold MadeP
    rw[if_pos rfl]
    exact⟨u.heap.size,Z,by unfold left;rw[hka];simp,q2,by show(u.heap.push _)[u.heap.size]?=_;simp,hZ⟩
   rcases List.mem_cons.1 hR2 with rfl|hR2
   ·rw[hos]at ho
    cases ho
    obtain⟨e,he,h4,hon⟩:=need_at hna
    have hA:=hd e he h4
    unfold MadeP at hA
    rw[hon,if_pos rfl]at hA
    obtain⟨B,C0,q1,q2,q3,q4⟩:=hA
    have hx:b.eval (.tmp ta)=.pointer (some ⟨B,0,none⟩):=by
     rw[←q1]
     unfold left
     rw[hka,if_neg (by decide),got_at hta]
     rfl
    have hy:b.eval (.tmp tv)=.agg cs.toArray:=by
     have:=hd' jv hjv.1 hjv.2.1 hnv
     rcases htab with ht|ht
     ·rw[ht]at this;cases this
     ·rw[ht]at this
      have:=Option.some.inj this
      unfold left at this
      rw[hjv.2.2,if_neg (by decide),got_at htv]at this
      exact this.symm
    have hc:=block_setCells (T:=T) cs 0 u C0 q3
    rw[setL_full q4]at hc
    obtain⟨s1,s2,s3⟩:=hstore u F B hC q2
    refine wp_store_mid T (.tmp ta) (.tmp tv) hst B 0 cs.toArray hx hy (there_block q3 0 _ (by simp;omega)) (by simpa using hi) h1 ?_
    rw[show cs.toArray.toList=cs from rfl]
    refine⟨undef,F,by rw[hosd],s1,⟨s2,fun B' hB'=>⟨s3 B' hB',?_,?_⟩⟩,?_⟩
    ·intro C2 z1 z2
     by_cases e:B'=B
     ·subst e;exact⟨_,hc,by simp⟩
     ·exact⟨C2,(other_setCells e cs 0 u).trans z1,z2⟩
    ·intro z1
     by_cases e:B'=B
     ·subst e;exact hc
     ·exact(other_setCells e cs 0 u).trans z1
    ·unfold MadeP
     rw[if_neg hne,if_pos rfl]
     exact⟨B,by unfold left at q1 ⊢;rw[hka]at q1 ⊢;simpa[hne.symm]using q1,s3 B q2,hc⟩
   ·have hk:=List.all_eq_true.1 hR i hR2
    simp only[Bool.and_eq_true,bne_iff_ne,ne_eq]at hk
    refine Oper.wp_mono ?_ (step i o b u F hR2 ho hC hdf hb' hd')
    rintro b' u' ⟨v,F',r1,r2,r3,r4,r5⟩
    exact⟨v,F',r1,r2,r3,tell hk.1 hk.2 r4 r5⟩
 ·intro b u F g1 g2 g3 g4 g5
  have hE:E u F:=by
   have:=g5 kc hkcs
   unfold MadeP at this
   rw[if_neg hkc.1,if_neg hkc.2]at this
   exact this.2 rfl
  have hS:=g5 ks hkss
  unfold MadeP at hS
  rw[if_neg hne,if_pos rfl]at hS
  have:=fin (got ops b) u F g4 hE (fun i hi e1 e2=>by
   have:=g5 i hi
   unfold MadeP at this
   rw[if_neg e1,if_neg e2]at this
   exact this.1) (by
   obtain⟨B,q1,q2,q3⟩:=hS
   exact⟨B,by unfold left at q1;rw[hka,if_neg (by decide)]at q1;exact q1,q2,q3⟩)
  rwa[←laid_all hsz g1 g2 g3]at this
 ·exact Nat.le_trans List.countP_le_length (by simp)
 ·intro j o _ hj
  have:(Array.replicate ops.size false).getD j false=false:=by simp[Array.getD_eq_getD_getElem?,Array.getElem?_replicate];split<;>rfl
  rw[this]at hj;cases hj
 ·intro j hj
  have:(Array.replicate ops.size false).getD j false=false:=by simp[Array.getD_eq_getD_getElem?,Array.getElem?_replicate];split<;>rfl
  rw[this]at hj;cases hj
end
end
end Go.Proofs.YtmdncgfheeijaaaGreat
