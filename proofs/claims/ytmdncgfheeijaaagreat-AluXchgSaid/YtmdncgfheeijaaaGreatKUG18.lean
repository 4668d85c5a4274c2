import Derived.Test.YtmdncgfheeijaaaGreatKUG16
import Derived.Test.YtmdncgfheeijaaaGreatKUG17
import Derived.Test.YtmdncgfheeijaaaGreatKUG5
namespace Go.Proofs.YtmdncgfheeijaaaGreat
open Go.ChangeShapes Go.WideShapes Go.ChangeAt Go.RowKit
set_option maxRecDepth 100000
theorem setL_size:∀(vs:List Value) (C:Array Value) (o:Nat),(setL C o vs).size=C.size
 |[],_,_=>rfl
 |v :: vs,C,o=>by unfold setL;rw[setL_size vs];simp
theorem setL_app:∀(vs pre rest:List Value),vs.length≤rest.length→setL (pre++rest).toArray pre.length vs=(pre++vs++rest.drop vs.length).toArray
 |[],pre,rest,_=>by simp[setL]
 |v :: vs,pre,[],h=>by simp at h
 |v :: vs,pre,x :: rest,h=>by
  unfold setL
  have e:(pre++x :: rest).toArray.setIfInBounds pre.length v=(pre++[v]++rest).toArray:=by simp
  rw[e,show pre.length+1=(pre++[v]).length by simp,setL_app vs (pre++[v]) rest (by simpa using h)]
  simp
theorem setL_whole(s:Sta){C:Array Value}(hz:C.size=23):setL C 0 (staL s).toArray.toList=(staL s).toArray:=by
 obtain⟨l⟩:=C
 have hl:l.length=23:=hz
 have h:=setL_app (staL s) [] l (by rw[hl];exact Nat.le_refl 23)
 rw[List.nil_append,List.nil_append,show l.drop (staL s).length=[]from List.drop_eq_nil_of_le (by rw[hl];exact Nat.le_refl 23),List.append_nil]at h
 exact h
structure PInv (w:World) (rb:Nat) (R:Nat→Prop) (g g':Int→Int) (cc dd:Sg) (a s:Sta) (o:Opd) (u:World):Prop where
 ra:u.heap[w.heap.size]?=some (.cells (staL a).toArray 29 (0,0))
 rs:u.heap[w.heap.size+1]?=some (.cells (staL s).toArray 29 (0,0))
 ro:u.heap[w.heap.size+2]?=some (.cells (opL' o).toArray 32 (0,0))
 res:∃C,u.heap[w.heap.size+3]?=some (.cells C 29 (0,0))∧C.size=23
 bus:RBus u rb R g cc dd∨RBus u rb R g' cc dd
 own:∀k,R k→k<w.heap.size
 but:But R w u
theorem PInv.below{w:World}{rb:Nat}{R:Nat→Prop}{g g':Int→Int}{cc dd:Sg}{a s:Sta}{o:Opd}{u u':World}(h:PInv w rb R g g' cc dd a s o u)(hb:Below u.heap.size u u'):PInv w rb R g g' cc dd a s o u':=by
 have k:∀{j:Nat} {x:Obj},u.heap[j]?=some x→u'.heap[j]?=some x:=fun{j x} hj=>(hb.block j (Array.getElem?_eq_some_iff.1 hj).1).trans hj
 obtain⟨C,hC,hz⟩:=h.res
 exact⟨k h.ra,k h.rs,k h.ro,⟨C,k hC,hz⟩,h.bus.imp (·.below hb) (·.below hb),h.own,h.but.trans (But.of_below (F:=R) hb) (fun _ _ h=>h)⟩
theorem PInv.wrote{w:World}{rb:Nat}{R:Nat→Prop}{g g':Int→Int}{cc dd:Sg}{a s:Sta}{o:Opd}{u u':World}(h:PInv w rb R g g' cc dd a s o u)(hr:RBus u' rb R g' cc dd)(hb:But R u u'):PInv w rb R g g' cc dd a s o u':=by
 have k:∀{j:Nat} {x:Obj},w.heap.size≤j→u.heap[j]?=some x→u'.heap[j]?=some x:=fun{j x} hl hj=>(hb.block j (Array.getElem?_eq_some_iff.1 hj).1 (fun hR=>by have:=h.own j hR;omega)).trans hj
 obtain⟨C,hC,hz⟩:=h.res
 exact⟨k (by omega) h.ra,k (by omega) h.rs,k (by omega) h.ro,⟨C,k (by omega) hC,hz⟩,.inr hr,h.own,h.but.trans hb (fun _ _ h=>h)⟩
theorem PInv.stored{w:World}{rb:Nat}{R:Nat→Prop}{g g':Int→Int}{cc dd:Sg}{a s:Sta}{o:Opd}{u Y:World}{cs:List Value}(h:PInv w rb R g g' cc dd a s o u)(hY:Y=u.setCells (w.heap.size+3) 0 cs):PInv w rb R g g' cc dd a s o Y∧But (·=w.heap.size+3) u Y:=by
 have hbt:But (·=w.heap.size+3) u Y:=by rw[hY];exact(But.refl (·=w.heap.size+3) u).cells (fun _=>rfl) _ _
 have k:∀{j:Nat} {x:Obj},j≠w.heap.size+3→u.heap[j]?=some x→Y.heap[j]?=some x:=fun{j x} hl hj=>(hbt.block j (Array.getElem?_eq_some_iff.1 hj).1 hl).trans hj
 obtain⟨C,hC,hz⟩:=h.res
 have hn:∀k,R k→¬k=w.heap.size+3:=fun k hk e=>by have:=h.own k hk;omega
 refine⟨⟨k (by omega) h.ra,k (by omega) h.rs,k (by omega) h.ro,?_,h.bus.imp (·.but hbt hn) (·.but hbt hn),h.own,?_⟩,hbt⟩
 ·rw[hY]
  exact⟨_,block_setCells cs 0 u C hC,by rw[setL_size];exact hz⟩
 ·refine⟨hbt.os.trans h.but.os,hbt.tape.trans h.but.tape,hbt.output.trans h.but.output,Nat.le_trans h.but.size hbt.size,fun j hj hR=>(hbt.block j (Nat.lt_of_lt_of_le hj h.but.size) (by omega)).trans (h.but.block j hj hR)⟩
def PG(w:World)(rb:Nat)(R:Nat→Prop)(g':Int→Int)(cc dd:Sg)(s:Sta)(u u':World):Prop:=
 (u.heap[w.heap.size+3]?=some (.cells (staL s).toArray 29 (0,0))→u'.heap[w.heap.size+3]?=some (.cells (staL s).toArray 29 (0,0)))∧(RBus u rb R g' cc dd→RBus u' rb R g' cc dd)
theorem PG.refl(w:World)(rb:Nat)(R:Nat→Prop)(g':Int→Int)(cc dd:Sg)(s:Sta)(u:World):PG w rb R g' cc dd s u u:=⟨id,id⟩
theorem PG.below{w:World}{rb:Nat}{R:Nat→Prop}{g':Int→Int}{cc dd:Sg}{s:Sta}{u u':World}(hb:Below u.heap.size u u'):PG w rb R g' cc dd s u u':=⟨fun h=>(hb.block _ (Array.getElem?_eq_some_iff.1 h).1).trans h,fun h=>h.below hb⟩
structure MC (w:World) (rb:Nat) (R:Nat→Prop) (g:Int→Int) (cc dd:Sg) (s:Sta) (o:Opd) (u:World):Prop where
 rs:u.heap[w.heap.size]?=some (.cells (staL s).toArray 29 (0,0))
 ro:u.heap[w.heap.size+1]?=some (.cells (opL' o).toArray 32 (0,0))
 bus:RBus u rb R g cc dd
 bel:Below w.heap.size w u
theorem MC.on{w:World}{rb:Nat}{R:Nat→Prop}{g:Int→Int}{cc dd:Sg}{s:Sta}{o:Opd}{u u':World}(h:MC w rb R g cc dd s o u)(hb:Below u.heap.size u u'):MC w rb R g cc dd s o u':=
 ⟨(hb.block _ (Array.getElem?_eq_some_iff.1 h.rs).1).trans h.rs,(hb.block _ (Array.getElem?_eq_some_iff.1 h.ro).1).trans h.ro,h.bus.below hb,h.bel.trans (hb.mono h.bel.size)⟩
def fl(s:Sta)(c p z g o d:Bool):Sta:={ s with c:=c,p:=p,z:=z,s:=g,o:=o,d:=d }
theorem fl_ok{s:Sta}(h:StaOk s)(c p z g o d:Bool):StaOk (fl s c p z g o d):=⟨h.r,h.x,h.ip⟩
structure Calc where
 t:Sta
 v:Int
 n:Int
 st:Bool
def addQ(s:Sta)(x y n:Int)(c st:Bool):Calc:=⟨fl s (addC x y n c) (par (addV x y n c)) (zer (addV x y n c)) (hi (addV x y n c) n) (addO x y n c) false,addV x y n c,n,st⟩
def subQ(s:Sta)(x y n:Int)(c st:Bool):Calc:=⟨fl s (subC x y n c) (par (subV x y n c)) (zer (subV x y n c)) (hi (subV x y n c) n) (subO x y n c) false,subV x y n c,n,st⟩
def logQ(s:Sta)(z n:Int)(st:Bool):Calc:=⟨fl s false (par (cut z n)) (zer (cut z n)) (hi (cut z n) n) false false,cut z n,n,st⟩
def stepQ(s:Sta)(x n i:Int):Calc:=⟨fl s s.c (par (stepV x n i)) (zer (stepV x n i)) (hi (stepV x n i) n) (stepO x n i) s.d,stepV x n i,n,true⟩
def timesQ(s:Sta)(a c n:Int):Calc:=⟨fl s (imulC a c) s.p s.z s.s (imulC a c) s.d,imulL a c,n,true⟩
def shiftQ(s:Sta)(op x y n:Int):Calc:=⟨fl s (sfC op x (y%32).toNat s.c) (sfP op x (y%32).toNat s.p) (sfZ op x (y%32).toNat s.z) (sfS op x (y%32).toNat s.s) (sfO op x (y%32).toNat s.o) s.d,shV op x (y%32).toNat,n,true⟩
def calcF(s:Sta)(I:Ins)(x y:Int):Calc:=
 if I.op=1 then addQ s x y I.size false true
 else if I.op=3 then addQ s x y I.size s.c true
 else if I.op=6 then subQ s x y I.size false true
 else if I.op=8 then subQ s x y I.size false false
 else if I.op=4 then subQ s x y I.size s.c true
 else if I.op=5 then logQ s (bits .and .u32 x y) I.size true
 else if I.op=9 then logQ s (bits .and .u32 x y) I.size false
 else if I.op=2 then logQ s (bits .or .u32 x y) I.size true
 else if I.op=7 then logQ s (bits .xor .u32 x y) I.size true
 else if I.op=10 then⟨s,bits .xor .u32 4294967295 x,I.size,true⟩
 else if I.op=11 then subQ s 0 x I.size false true
 else if I.op=16 then stepQ s x I.size 1
 else if I.op=17 then stepQ s x I.size (-1)
 else if I.op=18 then⟨s,y,I.size,true⟩
 else if I.op=19 then⟨s,cut y I.size,4,true⟩
 else if I.op=20 then⟨s,sgn y I.size%4294967296,4,true⟩
 else if I.op=35 then⟨s,if condH I.cond s.c s.p s.z s.s s.o then 1 else 0,I.size,true⟩
 else if I.op=36 then⟨s,y,I.size,condH I.cond s.c s.p s.z s.s s.o⟩
 else if I.op=25 then(if I.cond=1 then timesQ s y I.c I.size else timesQ s (getF s I.a%4294967296) y I.size)
 else if I.op=26∨I.op=27∨I.op=28∨I.op=29∨I.op=30 then shiftQ s I.op x y I.size
 else⟨s,0,I.size,true⟩
def finT(dd:Sg)(s:Sta)(I:Ins)(q:Calc):Sta:=if q.st then(if putO dd s I.a q.n then putS q.t I.a q.v else s)else q.t
def finE(dd:Sg)(s:Sta)(I:Ins)(q:Calc):Int:=if q.st then(if putO dd s I.a q.n then 0 else 2)else 0
def finG(g:Int→Int)(dd:Sg)(s:Sta)(I:Ins)(q:Calc):Int→Int:=if q.st then putG g dd s I.a q.n q.v else g
def isWide(op:Int):Bool:=op==12 || op==13 || op==14 || op==15
def doneT(dd:Sg)(s:Sta)(I:Ins)(x y:Int):Sta:=
 if isWide I.op then(if wideO s I.op x then wideT s I.op x else s)
 else if I.op=22 then(if putO dd s I.a I.size&&putO dd s I.b I.size then putS (putS s I.a y) I.b x else s)
 else finT dd s I (calcF s I x y)
def doneE(dd:Sg)(s:Sta)(I:Ins)(x y:Int):Int:=
 if isWide I.op then(if wideO s I.op x then 0 else 3)
 else if I.op=22 then(if putO dd s I.a I.size&&putO dd s I.b I.size then 0 else 2)
 else finE dd s I (calcF s I x y)
def doneG(g:Int→Int)(dd:Sg)(s:Sta)(I:Ins)(x y:Int):Int→Int:=
 if isWide I.op then g
 else if I.op=22 then(if putO dd s I.a I.size&&putO dd s I.b I.size then putG (putG g dd s I.a I.size y) dd s I.b I.size x else g)
 else finG g dd s I (calcF s I x y)
theorem done_fin{g:Int→Int}{dd:Sg}{s T0:Sta}{I:Ins}{x y E0:Int}{G0:Int→Int}(h1:isWide I.op=false)(h2:¬I.op=22)(hT:doneT dd s I x y=T0)(hE:doneE dd s I x y=E0)(hG:doneG g dd s I x y=G0)(q:Calc)(hq:calcF s I x y=q):finT dd s I q=T0∧finE dd s I q=E0∧finG g dd s I q=G0:=by
 unfold doneT at hT
 unfold doneE at hE
 unfold doneG at hG
 rw[h1,if_neg (by decide),if_neg h2,hq]at hT hE hG
 exact⟨hT,hE,hG⟩
structure DI (w:World) (rb:Nat) (R:Nat→Prop) (g:Int→Int) (cc dd:Sg) (s t:Sta) (I:Ins) (u:World):Prop where
 bs:u.heap[w.heap.size]?=some (.cells (staL s).toArray 29 (0,0))
 bi:u.heap[w.heap.size+1]?=some (.cells (insL I).toArray 34 (0,0))
 br:∃C,u.heap[w.heap.size+2]?=some (.cells C 29 (0,0))∧C.size=23
 bt:u.heap[w.heap.size+3]?=some (.cells (staL t).toArray 29 (0,0))
 bus:RBus u rb R g cc dd
 own:∀k,R k→k<w.heap.size
 but:But R w u
section
variable {w:World} {rb:Nat} {R:Nat→Prop} {g g':Int→Int} {cc dd:Sg} {s t t':Sta} {I:Ins} {u u' Y:World}
theorem DI.below(h:DI w rb R g cc dd s t I u)(hb:Below u.heap.size u u'):DI w rb R g cc dd s t I u':=by
 have k:∀{j:Nat} {x:Obj},u.heap[j]?=some x→u'.heap[j]?=some x:=fun{j x} hj=>(hb.block j (Array.getElem?_eq_some_iff.1 hj).1).trans hj
 obtain⟨C,hC,hz⟩:=h.br
 exact⟨k h.bs,k h.bi,⟨C,k hC,hz⟩,k h.bt,h.bus.below hb,h.own,h.but.trans (But.of_below (F:=R) hb) (fun _ _ h=>h)⟩
theorem DI.wrote(h:DI w rb R g cc dd s t I u)(hr:RBus u' rb R g' cc dd)(hb:But R u u'):DI w rb R g' cc dd s t I u':=by
 have k:∀{j:Nat} {x:Obj},w.heap.size≤j→u.heap[j]?=some x→u'.heap[j]?=some x:=fun{j x} hl hj=>(hb.block j (Array.getElem?_eq_some_iff.1 hj).1 (fun hR=>by have:=h.own j hR;omega)).trans hj
 obtain⟨C,hC,hz⟩:=h.br
 exact⟨k (by omega) h.bs,k (by omega) h.bi,⟨C,k (by omega) hC,hz⟩,k (by omega) h.bt,hr,h.own,h.but.trans hb (fun _ _ h=>h)⟩
theorem DI.turned(h:DI w rb R g cc dd s t I u)(j:Nat)(hj:w.heap.size≤j)(hb:But (·=j) u Y)(k0:w.heap.size≠j)(k1:w.heap.size+1≠j)(hr:∃C,Y.heap[w.heap.size+2]?=some (.cells C 29 (0,0))∧C.size=23)(ht:Y.heap[w.heap.size+3]?=some (.cells (staL t').toArray 29 (0,0))):DI w rb R g cc dd s t' I Y:=by
 have k:∀{i:Nat} {x:Obj},i≠j→u.heap[i]?=some x→Y.heap[i]?=some x:=fun{i x} hl hi=>(hb.block i (Array.getElem?_eq_some_iff.1 hi).1 hl).trans hi
 refine⟨k k0 h.bs,k k1 h.bi,hr,ht,h.bus.but hb (fun i hi e=>by have:=h.own i hi;omega),h.own,?_⟩
 exact⟨hb.os.trans h.but.os,hb.tape.trans h.but.tape,hb.output.trans h.but.output,Nat.le_trans h.but.size hb.size,fun i hi hR=>(hb.block i (Nat.lt_of_lt_of_le hi h.but.size) (by omega)).trans (h.but.block i hi hR)⟩
theorem DI.cells{o:Nat}{vs:List Value}(h:DI w rb R g cc dd s t I u)(hY:Y=u.setCells (w.heap.size+3) o vs)(e:setL (staL t).toArray o vs=(staL t').toArray):DI w rb R g cc dd s t' I Y:=by
 have hb:But (·=w.heap.size+3) u Y:=by rw[hY];exact(But.refl (·=w.heap.size+3) u).cells (fun _=>rfl) _ _
 obtain⟨C,hC,hz⟩:=h.br
 refine h.turned (w.heap.size+3) (by omega) hb (by omega) (by omega) ⟨C,(hb.block _ (Array.getElem?_eq_some_iff.1 hC).1 (by omega)).trans hC,hz⟩ ?_
 rw[hY,←e]
 exact block_setCells vs o u _ h.bt
theorem DI.res{vs:List Value}(h:DI w rb R g cc dd s t I u)(hY:Y=u.setCells (w.heap.size+2) 0 vs):DI w rb R g cc dd s t I Y:=by
 have hb:But (·=w.heap.size+2) u Y:=by rw[hY];exact(But.refl (·=w.heap.size+2) u).cells (fun _=>rfl) _ _
 obtain⟨C,hC,hz⟩:=h.br
 refine h.turned (w.heap.size+2) (by omega) hb (by omega) (by omega) ⟨_,by rw[hY];exact block_setCells vs 0 u _ hC,by rw[setL_size];exact hz⟩ ((hb.block _ (Array.getElem?_eq_some_iff.1 h.bt).1 (by omega)).trans h.bt)
theorem DI.has(h:DI w rb R g cc dd s t I u)(o n:Nat)(hn:o+n≤23):u.there (w.heap.size+3) o n:=there_block h.bt o n hn
theorem DI.op(h:DI w rb R g cc dd s t I u):u.cell? ⟨w.heap.size+1,0,none⟩=some (.int .i64 I.op):=(cell_block h.bi 0).1
theorem DI.cond(h:DI w rb R g cc dd s t I u):u.cell? ⟨w.heap.size+1,1,none⟩=some (.int .i64 I.cond):=(cell_block h.bi 1).1
theorem DI.size(h:DI w rb R g cc dd s t I u):u.cell? ⟨w.heap.size+1,2,none⟩=some (.int .i64 I.size):=(cell_block h.bi 2).1
theorem DI.c(h:DI w rb R g cc dd s t I u):u.cell? ⟨w.heap.size+1,15,none⟩=some (.int .u32 I.c):=(cell_block h.bi 15).1
theorem DI.carry(h:DI w rb R g cc dd s t I u):u.cell? ⟨w.heap.size,9,none⟩=some (.bool s.c):=(cell_block h.bs 9).1
theorem DI.rs(h:DI w rb R g cc dd s t I u):u.rangeAt w.heap.size 0 (staL s):=range_in13 h.bs 0 _ rfl
theorem DI.ra(h:DI w rb R g cc dd s t I u):u.rangeAt (w.heap.size+1) 3 (opL' I.a):=range_in13 h.bi 3 _ rfl
end
theorem setL_whole23(t:Sta)(s:Sta):setL (staL s).toArray 0 (staL t)=(staL t).toArray:=setL_whole t (by rfl)
def onlyB(op:Int):Bool:=op==18 || op==19 || op==20 || op==35 || op==25 || op==36
def cdqV(a:Int):Int:=if a<2147483648 then 0 else 4294967295
def soleB(op:Int):Bool:=op==37 || op==38 || op==41 || op==42 || op==43 || op==44 || op==45 || op==50 || op==21
def soleT(s:Sta)(I:Ins):Sta:=
 if I.op=37 then{ s with r:=putN s.r 0 (sgn (s.r 0) 2%4294967296) }
 else if I.op=38 then{ s with r:=putN s.r 2 (cdqV (s.r 0)) }
 else if I.op=41 then{ s with c:=false }
 else if I.op=42 then{ s with c:=true }
 else if I.op=43 then{ s with c:=!s.c }
 else if I.op=21 then setF s I.a (ofF s I.b)
 else s
def xA(g:Int→Int)(dd:Sg)(s:Sta)(I:Ins):Int:=if onlyB I.op then 0 else ldA g dd s I.a I.size%4294967296
def yA(g:Int→Int)(dd:Sg)(s:Sta)(I:Ins):Int:=if I.b.kind=0 then 0 else ldA g dd s I.b I.size%4294967296
def okA(dd:Sg)(s:Sta)(I:Ins):Bool:=(onlyB I.op || ldO dd s I.a I.size)&&(I.b.kind==0 || ldO dd s I.b I.size)
def aluT(g:Int→Int)(dd:Sg)(s:Sta)(I:Ins):Sta:=if soleB I.op then soleT s I else if okA dd s I then doneT dd s I (xA g dd s I) (yA g dd s I)else s
def aluE(g:Int→Int)(dd:Sg)(s:Sta)(I:Ins):Int:=if soleB I.op then 0 else if okA dd s I then doneE dd s I (xA g dd s I) (yA g dd s I)else 2
def aluG(g:Int→Int)(dd:Sg)(s:Sta)(I:Ins):Int→Int:=if soleB I.op then g else if okA dd s I then doneG g dd s I (xA g dd s I) (yA g dd s I)else g
theorem ldA_lo(g:Int→Int)(dd:Sg)(s:Sta)(I:Ins):0≤xA g dd s I∧xA g dd s I<4294967296:=by unfold xA;split<;>omega
theorem ldB_lo(g:Int→Int)(dd:Sg)(s:Sta)(I:Ins):0≤yA g dd s I∧yA g dd s I<4294967296:=by unfold yA;split<;>omega
end Go.Proofs.YtmdncgfheeijaaaGreat
