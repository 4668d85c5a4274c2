import Derived.Test.YtmdncgfheeijaaaGreatKVG16
import Derived.Test.YtmdncgfheeijaaaGreatKVG17
import Derived.Test.YtmdncgfheeijaaaGreatKVG5
namespace Go.Proofs.YtmdncgfheeijaaaGreat
open Go.ChangeShapes Go.WideShapes Go.ChangeAt Go.RowKit
set_option maxRecDepth 100000
theorem heap_four{w W:World}{o p q r:Obj}(h:W=(((w.alloc o).alloc p).alloc q).alloc r):W.heap[w.heap.size]?=some o∧W.heap[w.heap.size+1]?=some p∧W.heap[w.heap.size+2]?=some q∧W.heap[w.heap.size+3]?=some r∧Below w.heap.size w W:=by
 obtain⟨h1,h2,h3,h4⟩:=heap_three (W:=((w.alloc o).alloc p).alloc q) rfl
 have hk:∀k,k<(((w.alloc o).alloc p).alloc q).heap.size→W.heap[k]?=(((w.alloc o).alloc p).alloc q).heap[k]?:=fun k hk=>by
  rw[h]
  exact(below_last (Below.refl _ _) r).block k hk
 refine⟨(hk _ (by simp<;>omega)).trans h1,(hk _ (by simp<;>omega)).trans h2,(hk _ (by simp<;>omega)).trans h3,?_,by rw[h];exact below_last h4 _⟩
 rw[h]
 show((((w.alloc o).alloc p).alloc q).heap.push r)[w.heap.size+3]?=_
 rw[show w.heap.size+3=(((w.alloc o).alloc p).alloc q).heap.size by simp]
 exact Array.getElem?_push_size
theorem setL_size:∀(vs:List Value) (C:Array Value) (o:Nat),(setL C o vs).size=C.size
 |[],_,_=>rfl
 |v :: vs,C,o=>by unfold setL;rw[setL_size vs];simp
theorem setL_app:∀(vs pre rest:List Value),vs.length≤rest.length→setL (pre++rest).toArray pre.length vs=(pre++vs++rest.drop vs.length).toArray
 |[],pre,rest,_=>by simp[setL]
 |v :: vs,pre,[],h=>by simp at h
 |v :: vs,pre,x :: rest,h=>by
  unfold setL
  have e:(pre++x :: rest).toArray.setIfInBounds pre.length v=(pre++[v]++rest).toArray:=by simp
  rw[e,show pre.length+1=(pre++[v]).length by simp,setL_app vs (pre++[v]) rest (by simpa using h)]
  simp
theorem setL_whole(s:Sta){C:Array Value}(hz:C.size=23):setL C 0 (staL s).toArray.toList=(staL s).toArray:=by
 obtain⟨l⟩:=C
 have hl:l.length=23:=hz
 have h:=setL_app (staL s) [] l (by rw[hl];exact Nat.le_refl 23)
 rw[List.nil_append,List.nil_append,show l.drop (staL s).length=[]from List.drop_eq_nil_of_le (by rw[hl];exact Nat.le_refl 23),List.append_nil]at h
 exact h
structure PInv (w:World) (rb:Nat) (R:Nat→Prop) (g g':Int→Int) (cc dd:Sg) (a s:Sta) (o:Opd) (u:World):Prop where
 ra:u.heap[w.heap.size]?=some (.cells (staL a).toArray 29 (0,0))
 rs:u.heap[w.heap.size+1]?=some (.cells (staL s).toArray 29 (0,0))
 ro:u.heap[w.heap.size+2]?=some (.cells (opL' o).toArray 32 (0,0))
 res:∃C,u.heap[w.heap.size+3]?=some (.cells C 29 (0,0))∧C.size=23
 bus:RBus u rb R g cc dd∨RBus u rb R g' cc dd
 own:∀k,R k→k<w.heap.size
 but:But R w u
theorem PInv.below{w:World}{rb:Nat}{R:Nat→Prop}{g g':Int→Int}{cc dd:Sg}{a s:Sta}{o:Opd}{u u':World}(h:PInv w rb R g g' cc dd a s o u)(hb:Below u.heap.size u u'):PInv w rb R g g' cc dd a s o u':=by
 have k:∀{j:Nat} {x:Obj},u.heap[j]?=some x→u'.heap[j]?=some x:=fun{j x} hj=>(hb.block j (Array.getElem?_eq_some_iff.1 hj).1).trans hj
 obtain⟨C,hC,hz⟩:=h.res
 exact⟨k h.ra,k h.rs,k h.ro,⟨C,k hC,hz⟩,h.bus.imp (·.below hb) (·.below hb),h.own,h.but.trans (But.of_below (F:=R) hb) (fun _ _ h=>h)⟩
theorem PInv.wrote{w:World}{rb:Nat}{R:Nat→Prop}{g g':Int→Int}{cc dd:Sg}{a s:Sta}{o:Opd}{u u':World}(h:PInv w rb R g g' cc dd a s o u)(hr:RBus u' rb R g' cc dd)(hb:But R u u'):PInv w rb R g g' cc dd a s o u':=by
 have k:∀{j:Nat} {x:Obj},w.heap.size≤j→u.heap[j]?=some x→u'.heap[j]?=some x:=fun{j x} hl hj=>(hb.block j (Array.getElem?_eq_some_iff.1 hj).1 (fun hR=>by have:=h.own j hR;omega)).trans hj
 obtain⟨C,hC,hz⟩:=h.res
 exact⟨k (by omega) h.ra,k (by omega) h.rs,k (by omega) h.ro,⟨C,k (by omega) hC,hz⟩,.inr hr,h.own,h.but.trans hb (fun _ _ h=>h)⟩
theorem PInv.stored{w:World}{rb:Nat}{R:Nat→Prop}{g g':Int→Int}{cc dd:Sg}{a s:Sta}{o:Opd}{u Y:World}{cs:List Value}(h:PInv w rb R g g' cc dd a s o u)(hY:Y=u.setCells (w.heap.size+3) 0 cs):PInv w rb R g g' cc dd a s o Y∧But (·=w.heap.size+3) u Y:=by
 have hbt:But (·=w.heap.size+3) u Y:=by rw[hY];exact(But.refl (·=w.heap.size+3) u).cells (fun _=>rfl) _ _
 have k:∀{j:Nat} {x:Obj},j≠w.heap.size+3→u.heap[j]?=some x→Y.heap[j]?=some x:=fun{j x} hl hj=>(hbt.block j (Array.getElem?_eq_some_iff.1 hj).1 hl).trans hj
 obtain⟨C,hC,hz⟩:=h.res
 have hn:∀k,R k→¬k=w.heap.size+3:=fun k hk e=>by have:=h.own k hk;omega
 refine⟨⟨k (by omega) h.ra,k (by omega) h.rs,k (by omega) h.ro,?_,h.bus.imp (·.but hbt hn) (·.but hbt hn),h.own,?_⟩,hbt⟩
 ·rw[hY]
  exact⟨_,block_setCells cs 0 u C hC,by rw[setL_size];exact hz⟩
 ·refine⟨hbt.os.trans h.but.os,hbt.tape.trans h.but.tape,hbt.output.trans h.but.output,Nat.le_trans h.but.size hbt.size,fun j hj hR=>(hbt.block j (Nat.lt_of_lt_of_le hj h.but.size) (by omega)).trans (h.but.block j hj hR)⟩
def PV(w:World)(rb:Nat)(R:Nat→Prop)(g':Int→Int)(cc dd:Sg)(a s:Sta)(o:Opd)(size v A E:Int):Nat→Value→World→Prop
 |0,x,_=>x=.agg (staL s).toArray
 |1,x,_=>x=.pointer (some ⟨rb,0,none⟩)
 |2,x,_=>x=.agg (staL a).toArray
 |3,x,_=>x=.agg (opL' o).toArray
 |4,x,_=>x=.int .u32 A
 |5,x,_=>x=.int .i64 size
 |6,x,_=>x=.int .u64 v
 |7,x,u=>x=.int .i64 E∧RBus u rb R g' cc dd
 |8,x,_=>x=.bool (E==0)
 |9,_,u=>u.heap[w.heap.size+3]?=some (.cells (staL s).toArray 29 (0,0))
 |_,_,_=>True
def PG(w:World)(rb:Nat)(R:Nat→Prop)(g':Int→Int)(cc dd:Sg)(s:Sta)(u u':World):Prop:=
 (u.heap[w.heap.size+3]?=some (.cells (staL s).toArray 29 (0,0))→u'.heap[w.heap.size+3]?=some (.cells (staL s).toArray 29 (0,0)))∧(RBus u rb R g' cc dd→RBus u' rb R g' cc dd)
theorem PG.refl(w:World)(rb:Nat)(R:Nat→Prop)(g':Int→Int)(cc dd:Sg)(s:Sta)(u:World):PG w rb R g' cc dd s u u:=⟨id,id⟩
theorem PG.below{w:World}{rb:Nat}{R:Nat→Prop}{g':Int→Int}{cc dd:Sg}{s:Sta}{u u':World}(hb:Below u.heap.size u u'):PG w rb R g' cc dd s u u':=⟨fun h=>(hb.block _ (Array.getElem?_eq_some_iff.1 h).1).trans h,fun h=>h.below hb⟩
theorem pv_stays{w:World}{rb:Nat}{R:Nat→Prop}{g':Int→Int}{cc dd:Sg}{a s:Sta}{o:Opd}{size v A E:Int}(i:Nat)(x:Value)(u u':World)(h:PV w rb R g' cc dd a s o size v A E i x u)(hg:PG w rb R g' cc dd s u u'):PV w rb R g' cc dd a s o size v A E i x u':=by
 unfold PV at h ⊢
 split at h
 all_goals first
  |exact h
  |exact⟨h.1,hg.2 h.2⟩
  |exact hg.1 h
set_option maxHeartbeats 8000000
theorem rput13_any(rb:Nat)(R:Nat→Prop)(g:Int→Int)(cc dd:Sg)(a s:Sta)(o:Opd)(size v:Int)(ha:StaOk a)(hs:StaOk s)(d0:0≤o.disp)(d1:o.disp<4294967296)(v0:0≤v)(v1:v<18446744073709551616)(w:World)(hR:RBus w rb R g cc dd):
  Calls Tryz.prog 116 #[.pointer (some ⟨rb,0,none⟩),staV a,staV s,opV o,.int .i64 size,.int .u64 v] w fun e w'=>e=.returned (.tuple #[staV (putS s o v),.bool (putO dd a o size)])∧RBus w' rb R (putG g dd a o size v) cc dd∧But R w w':=by
 have HR:=Lib.hid hR
 have HOF:=Lib.hid (fun u=>rof_any a o ha d0 d1 u)
 have HSE:=Lib.hid (fun u=>rset_any s o v hs v0 v1 u)
 have hlo:=ofF_lo a o
 have hhi:=ofF_hi a o
 obtain⟨A,hA⟩:∃A,ofF a o=A:=⟨_,rfl⟩
 have HPO:=Lib.hid (show putO dd a o size=if o.kind=3 then stE dd A size==0 else true by rw[←hA];rfl)
 have HPG:=Lib.hid (show putG g dd a o size v=if o.kind=3 then stG g dd A size v else g by rw[←hA];rfl)
 have HPS:=Lib.hid (show putS s o v=if o.kind=3 then s else setF s o v from rfl)
 rw[hA]at HOF hlo hhi
 obtain⟨T,hT⟩:∃T,setF s o v=T:=⟨_,rfl⟩
 rw[hT]at HSE HPS
 obtain⟨k,r,b,i,c,d⟩:=o
 dsimp only at d0 d1 HPO HPG HPS
 rw[show staV a=.agg (staL a).toArray from rfl,show opV (⟨k,r,b,i,c,d⟩:Opd)=.agg (opL' ⟨k,r,b,i,c,d⟩).toArray from rfl]at HOF
 rw[show staV s=.agg (staL s).toArray from rfl,show opV (⟨k,r,b,i,c,d⟩:Opd)=.agg (opL' ⟨k,r,b,i,c,d⟩).toArray from rfl,show staV T=.agg (staL T).toArray from rfl]at HSE
 clear ha hs hA hT hR
 unfold staV opV
 go_enter Tryz.func116,Tryz.ntmps116
 go_upto_region 1 with fail
 obtain⟨W,hW⟩:∃W,W=(((w.alloc (.cells (staL a).toArray 29)).alloc (.cells (staL s).toArray 29)).alloc (.cells #[.int .i64 k,.int .i64 r,.int .i64 b,.int .i64 i,.int .i64 c,.int .u32 d] 32)).alloc (.cells #[.int .u32 0,.int .u32 0,.int .u32 0,.int .u32 0,.int .u32 0,.int .u32 0,.int .u32 0,.int .u32 0,.int .u32 0,.bool false,.bool false,.bool false,.bool false,.bool false,.bool false,.int .u64 0,.int .u64 0,.int .u64 0,.int .u64 0,.int .u64 0,.int .u64 0,.int .u64 0,.int .u64 0] 29):=⟨_,rfl⟩
 rw[←hW]
 obtain⟨h1,h2,h3,h4,hbel⟩:=heap_four hW
 have k0:W.cell? ⟨w.heap.size+2,0,none⟩=some (.int .i64 k):=(cell_block h3 0).1
 have HP:=Lib.hid (fun g'=>(show PInv w rb R g g' cc dd a s ⟨k,r,b,i,c,d⟩ W from⟨h1,h2,h3,⟨_,h4,rfl⟩,.inl (HR.out.below hbel),fun j hj=>HR.out.lt j hj,But.of_below hbel⟩))
 have HBEL:=Lib.hid hbel
 clear hW h1 h2 h3 h4 hbel
 by_cases hk:k=3
 ·subst hk
  have HPO1:=Lib.hid (HPO.out.trans (if_pos rfl))
  have HPG1:=Lib.hid (HPG.out.trans (if_pos rfl))
  have HPS1:=Lib.hid (HPS.out.trans (if_pos rfl))
  clear HPO HPG HPS
  obtain⟨g',hg'⟩:∃g',stG g dd A size v=g':=⟨_,rfl⟩
  have HTW:=Lib.hid (show stG g' dd A size v=g' by rw[←hg'];exact stG_twice g dd A size v)
  have HG':=Lib.hid hg'
  rw[hg']at HPG1
  obtain⟨E,hE⟩:∃E,stE dd A size=E:=⟨_,rfl⟩
  rw[hE]at HPO1
  have HE:=Lib.hid hE
  clear hE hg'
  go_wp2_with fail
  refine wp_region_valsT (by kernel_rfl) 10 _ rfl rfl (by kernel_rfl) (fun n=>n==9) (by kernel_rfl) (PInv w rb R g g' cc dd a s ⟨3,r,b,i,c,d⟩) (PG w rb R g' cc dd s) (PV w rb R g' cc dd a s ⟨3,r,b,i,c,d⟩ size v A E) pv_stays (PG.refl _ _ _ _ _ _ _) ((HP.out g').below ((Below.refl _ _).drew)) ?_ ?_
  ·intro n op f u hn ho hinv hsz hbase hdep
   have b0:f.tmps.getD 0 undef=.pointer (some ⟨rb,0,none⟩):=hbase 0 (by kernel_rfl)
   have b4:f.tmps.getD 4 undef=.int .i64 size:=hbase 4 (by kernel_rfl)
   have b5:f.tmps.getD 5 undef=.int .u64 v:=hbase 5 (by kernel_rfl)
   have b7:f.tmps.getD 7 undef=.pointer (some ⟨w.heap.size,0,none⟩):=hbase 7 (by kernel_rfl)
   have b8:f.tmps.getD 8 undef=.pointer (some ⟨w.heap.size+1,0,none⟩):=hbase 8 (by kernel_rfl)
   have b9:f.tmps.getD 9 undef=.pointer (some ⟨w.heap.size+2,0,none⟩):=hbase 9 (by kernel_rfl)
   have b12:f.tmps.getD 12 undef=.pointer (some ⟨w.heap.size+3,0,none⟩):=hbase 12 (by kernel_rfl)
   clear hbase hsz
   rcases(show n=0∨n=1∨n=2∨n=3∨n=4∨n=5∨n=6∨n=7∨n=8∨n=9 by omega)with rfl|rfl|rfl|rfl|rfl|rfl|rfl|rfl|rfl|rfl
   ·cases ho
    have hl:=load_range (P:=Tryz.prog) (cs:=staL s) 29 _ Tryz.underlying29 rfl info_sta (range_in13 hinv.rs 0 _ rfl)
    exact wp_val (by simp[execOp,Act.eval,b8,Instr.loadAt,Instr.sureAddr,hl]<;>rfl) ⟨_,rfl,hinv,PG.refl _ _ _ _ _ _ _ _,rfl⟩
   ·cases ho
    exact wp_val (by simp[execOp,Act.eval,b0,go_sem]<;>rfl) ⟨_,rfl,hinv,PG.refl _ _ _ _ _ _ _ _,rfl⟩
   ·cases ho
    have hl:=load_range (P:=Tryz.prog) (cs:=staL a) 29 _ Tryz.underlying29 rfl info_sta (range_in13 hinv.ra 0 _ rfl)
    exact wp_val (by simp[execOp,Act.eval,b7,Instr.loadAt,Instr.sureAddr,hl]<;>rfl) ⟨_,rfl,hinv,PG.refl _ _ _ _ _ _ _ _,rfl⟩
   ·cases ho
    have hl:=load_range (P:=Tryz.prog) (cs:=opL' ⟨3,r,b,i,c,d⟩) 32 _ Tryz.underlying32 rfl info_opd1 (range_in13 hinv.ro 0 _ rfl)
    exact wp_val (by simp[execOp,Act.eval,b9,Instr.loadAt,Instr.sureAddr,hl]<;>rfl) ⟨_,rfl,hinv,PG.refl _ _ _ _ _ _ _ _,rfl⟩
   ·cases ho
    have e2:f.tmps.getD 23 undef=.agg (staL a).toArray:=hdep 2 (by kernel_rfl)
    have e3:f.tmps.getD 24 undef=.agg (opL' ⟨3,r,b,i,c,d⟩).toArray:=hdep 3 (by kernel_rfl)
    refine wp_call (by simp[execOp,Act.eval,e2,e3,go_sem]<;>rfl) ((HOF.out u).mono ?_)
    rintro e u' ⟨rfl,hb⟩
    exact⟨_,rfl,_,rfl,hinv.below hb,PG.below hb,rfl⟩
   ·cases ho
    exact wp_val (by simp[execOp,Act.eval,b4,go_sem]<;>rfl) ⟨_,rfl,hinv,PG.refl _ _ _ _ _ _ _ _,rfl⟩
   ·cases ho
    exact wp_val (by simp[execOp,Act.eval,b5,go_sem]<;>rfl) ⟨_,rfl,hinv,PG.refl _ _ _ _ _ _ _ _,rfl⟩
   ·cases ho
    have e1:f.tmps.getD 22 undef=.pointer (some ⟨rb,0,none⟩):=hdep 1 (by kernel_rfl)
    have e4:f.tmps.getD 25 undef=.int .u32 A:=hdep 4 (by kernel_rfl)
    have e5:f.tmps.getD 26 undef=.int .i64 size:=hdep 5 (by kernel_rfl)
    have e6:f.tmps.getD 27 undef=.int .u64 v:=hdep 6 (by kernel_rfl)
    have hst:Calls Tryz.prog 139 #[.pointer (some ⟨rb,0,none⟩),.int .u32 A,.int .i64 size,.int .u64 v] u fun e u'=>e=.returned (.int .i64 E)∧RBus u' rb R g' cc dd∧But R u u':=by
     rcases hinv.bus with hb|hb
     ·have h:=rbstore_any rb R g cc dd A size v hlo hhi u hb
      rw[HE.out,HG'.out]at h
      exact h
     ·have h:=rbstore_any rb R g' cc dd A size v hlo hhi u hb
      rw[HE.out,HTW.out]at h
      exact h
    refine wp_call (by simp[execOp,Act.eval,e1,e4,e5,e6,go_sem]<;>rfl) (hst.mono ?_)
    rintro e u' ⟨rfl,hr,hb⟩
    exact⟨_,rfl,_,rfl,hinv.wrote hr hb,⟨fun h=>(hb.block _ (Array.getElem?_eq_some_iff.1 h).1 (fun hR=>by have:=hinv.own _ hR;omega)).trans h,fun _=>hr⟩,rfl,hr⟩
   ·cases ho
    have e7:f.tmps.getD 28 undef=.int .i64 E:=(hdep 7 (by kernel_rfl)).1
    exact wp_val (by simp[execOp,Act.eval,e7,go_sem]<;>rfl) ⟨_,rfl,hinv,PG.refl _ _ _ _ _ _ _ _,rfl⟩
   ·cases ho
    have e0:f.tmps.getD 21 undef=.agg (staL s).toArray:=hdep 0 (by kernel_rfl)
    obtain⟨C,hC,hz⟩:=hinv.res
    refine wp_store_mid 29 (.tmp 12) (.tmp 21) rfl (w.heap.size+3) 0 (staL s).toArray b12 e0 (there_block hC 0 23 (by omega)) info_sta (sta_one s) ?_
    obtain⟨hi,hbt⟩:=hinv.stored (cs:=(staL s).toArray.toList) rfl
    refine⟨undef,rfl,hi,⟨fun _=>?_,fun h=>h.but hbt (fun j hj e=>by have:=hinv.own j hj;omega)⟩,?_⟩
    all_goals
     have h:=block_setCells (T:=29) (staL s).toArray.toList 0 u C hC
     rw[setL_whole s hz]at h
     exact h
  ·intro f u hinv hV
   obtain⟨_,hbus⟩:=hV 7 (by decide)
   have q8:f 8=.bool (E==0):=hV 8 (by decide)
   have hres:=hV 9 (by decide)
   generalize hc:laid _ f _ _=fr
   have b29:fr.tmps.getD 29 undef=.bool (E==0):=by rw[←hc,←q8];kernel_rfl
   have b12:fr.tmps.getD 12 undef=.pointer (some ⟨w.heap.size+3,0,none⟩):=by rw[←hc];kernel_rfl
   have bs:fr.tmps.size=30:=by rw[←hc];kernel_rfl
   have bd:fr.defers=[]:=by rw[←hc];kernel_rfl
   have HB:=Lib.hid hbus
   have HBT:=Lib.hid hinv.but
   have hl:=load_range (P:=Tryz.prog) (cs:=staL s) 29 _ Tryz.underlying29 rfl info_sta (range_in13 hres 0 _ rfl)
   have HL:=Lib.hid hl
   clear hc hV q8 hinv hbus hres hl
   refine wp_val (v:=.bool (E==0)) (by simp[execOp,Act.eval,b29,go_sem]<;>rfl) ?_
   show Exit.then _ _ Exit.normal (fr.put (some 13) (.bool (E==0))) u
   generalize hc:fr.put (some 13) (Value.bool (E==0))=f2
   have b12':f2.tmps.getD 12 undef=.pointer (some ⟨w.heap.size+3,0,none⟩):=by rw[←hc,put_other _ _ _ _ (by decide),b12]
   have b13':f2.tmps.getD 13 undef=.bool (E==0):=by rw[←hc];exact put_same _ _ _ (by rw[bs];decide)
   have bd':f2.defers=[]:=by rw[←hc,put_defers,bd]
   clear hc b29 b12 bs bd
   go_wp2_with fail
   exact bodyPost_ret (results_cell_tmp rfl b12' b13' HL.out) bd' ⟨by rw[HPO1.out,HPS1.out],by rw[HPG1.out];exact HB.out,HBT.out⟩
 ·have ek:(k != 3)=true:=by simpa using hk
  have ek':(k==3)=false:=by simpa using hk
  have HPO:=Lib.hid (HPO.out.trans (if_neg hk))
  have HPG:=Lib.hid (HPG.out.trans (if_neg hk))
  have HPS:=Lib.hid (HPS.out.trans (if_neg hk))
  clear hk
  have HW:=Lib.hid (HP.out g)
  go_wp2_with (first
   |(refine wpList_load_mid rfl 29 (.tmp 8) rfl (w.heap.size+1) 0 rfl (staL s) _ (range_in13 HW.out.rs 0 _ rfl) Tryz.underlying29 rfl info_sta ?_)
   |(refine wpList_load_mid rfl 32 (.tmp 9) rfl (w.heap.size+2) 0 rfl (opL' ⟨k,r,b,i,c,d⟩) _ (range_in13 HW.out.ro 0 _ rfl) Tryz.underlying32 rfl info_opd1 ?_))
  ((with_reducible refine(HSE.out _).mono ?_);rintro e w1 ⟨rfl,b1⟩)
  have HP1:=Lib.hid (HW.out.below b1)
  have HB1:=Lib.hid (HBEL.out.trans (b1.mono HBEL.out.size))
  have HTH:=Lib.hid (show w1.there (w.heap.size+3) 0 23 by obtain⟨C,hC,hz⟩:=HP1.out.res;exact there_block hC 0 23 (by omega))
  clear b1
  go_wp2_with (refine store_row rfl 29 (.tmp 12) (.tmp 20) rfl (w.heap.size+3) rfl (staL T) rfl _ Tryz.underlying29 rfl info_sta (sta_one T) HTH.out ?_;intro Y hY hl;have HL:=Lib.hid hl;have HY:=Lib.hid (HP1.out.stored hY).1;clear hY hl)
  exact bodyPost_ret (results_cell_tmp rfl rfl rfl HL.out) rfl ⟨by rw[HPO.out,HPS.out];rfl,by rw[HPG.out];exact HY.out.bus.elim id id,HY.out.but⟩
structure MC (w:World) (rb:Nat) (R:Nat→Prop) (g:Int→Int) (cc dd:Sg) (s:Sta) (o:Opd) (u:World):Prop where
 rs:u.heap[w.heap.size]?=some (.cells (staL s).toArray 29 (0,0))
 ro:u.heap[w.heap.size+1]?=some (.cells (opL' o).toArray 32 (0,0))
 bus:RBus u rb R g cc dd
 bel:Below w.heap.size w u
theorem MC.on{w:World}{rb:Nat}{R:Nat→Prop}{g:Int→Int}{cc dd:Sg}{s:Sta}{o:Opd}{u u':World}(h:MC w rb R g cc dd s o u)(hb:Below u.heap.size u u'):MC w rb R g cc dd s o u':=
 ⟨(hb.block _ (Array.getElem?_eq_some_iff.1 h.rs).1).trans h.rs,(hb.block _ (Array.getElem?_eq_some_iff.1 h.ro).1).trans h.ro,h.bus.below hb,h.bel.trans (hb.mono h.bel.size)⟩
theorem rmay13_any(rb:Nat)(R:Nat→Prop)(g:Int→Int)(cc dd:Sg)(s:Sta)(o:Opd)(size:Int)(hs:StaOk s)(d0:0≤o.disp)(d1:o.disp<4294967296)(w:World)(hR:RBus w rb R g cc dd):
  Calls Tryz.prog 115 #[.pointer (some ⟨rb,0,none⟩),staV s,opV o,.int .i64 size] w fun e w'=>e=.returned (.bool (putO dd s o size))∧Below w.heap.size w w':=by
 have HR:=Lib.hid hR
 have HOF:=Lib.hid (fun u=>rof_any s o hs d0 d1 u)
 have hlo:=ofF_lo s o
 have hhi:=ofF_hi s o
 have HD:=Lib.hid (show dd.ok by obtain⟨p,B,h⟩:=hR;exact h.ok.2)
 obtain⟨A,hA⟩:∃A,ofF s o=A:=⟨_,rfl⟩
 have HPO:=Lib.hid (show putO dd s o size=if o.kind=3 then stE dd A size==0 else true by rw[←hA];rfl)
 rw[hA]at HOF hlo hhi
 obtain⟨k,r,b,i,c,d⟩:=o
 dsimp only at d0 d1 HPO
 rw[show staV s=.agg (staL s).toArray from rfl,show opV (⟨k,r,b,i,c,d⟩:Opd)=.agg (opL' ⟨k,r,b,i,c,d⟩).toArray from rfl]at HOF
 clear hs hA hR
 unfold staV opV
 go_enter Tryz.func115,Tryz.ntmps115
 go_upto_region 1 with fail
 obtain⟨W,hW⟩:∃W,W=(w.alloc (.cells (staL s).toArray 29)).alloc (.cells #[.int .i64 k,.int .i64 r,.int .i64 b,.int .i64 i,.int .i64 c,.int .u32 d] 32):=⟨_,rfl⟩
 rw[←hW]
 obtain⟨h1,h2,hbel⟩:=heap_two hW
 have k0:W.cell? ⟨w.heap.size+1,0,none⟩=some (.int .i64 k):=(cell_block h2 0).1
 have hM:MC w rb R g cc dd s ⟨k,r,b,i,c,d⟩ W:=⟨h1,h2,HR.out.below hbel,hbel⟩
 have HM:=Lib.hid hM
 clear hW h1 h2 hbel hM
 by_cases hk:k=3
 ·subst hk
  have HPO1:=Lib.hid (HPO.out.trans (if_pos rfl))
  clear HPO
  have HWI:=Lib.hid (fun u=>rwidth_any size u)
  obtain⟨N,hN⟩:∃N,widN size=N:=⟨_,rfl⟩
  have HAT:=Lib.hid (fun u=>rat_sg dd A (N:Int) 1 HD.out hlo hhi u)
  obtain⟨E,hE⟩:∃E,atE dd.b dd.z dd.r dd.q dd.x A N 1=E:=⟨_,rfl⟩
  obtain⟨V,hV⟩:∃V,atV dd.b dd.z dd.r dd.q dd.x A N 1=V:=⟨_,rfl⟩
  rw[show stE dd A size=E by rw[←hE,←hN];rfl]at HPO1
  rw[hE,hV]at HAT
  rw[hN]at HWI
  clear hE hV hN
  go_wp2_with fail
  have hne:=class_const (C:=MC w rb R g cc dd s ⟨3,r,b,i,c,d⟩) HM.out
  refine wp_region_quietC (MC w rb R g cc dd s ⟨3,r,b,i,c,d⟩) (by kernel_rfl) (by kernel_rfl) (HM.out.on ((Below.refl _ _).drew)) ?_
  go_big_quiet_want;go_big_quiet_op;go_big_quiet_on
  go_big_quiet_want;go_big_quiet_op;go_big_quiet_on
  go_big_quiet_want;go_big_quiet_op;go_big_quiet_on
  go_big_quiet_want;refine quietC_load 57 (.tmp 17) rb 6 rfl (sgL dd) _ (fun u hu=>hu.bus.data) Tryz.underlying57 rfl info_sg ?_;go_big_quiet_op;go_big_quiet_on
  go_big_quiet_want;refine quietC_load 29 (.tmp 5) w.heap.size 0 rfl (staL s) _ (fun u hu=>range_in13 hu.rs 0 _ rfl) Tryz.underlying29 rfl info_sta ?_;go_big_quiet_op;go_big_quiet_on
  go_big_quiet_want;refine quietC_load 32 (.tmp 6) (w.heap.size+1) 0 rfl (opL' ⟨3,r,b,i,c,d⟩) _ (fun u hu=>range_in13 hu.ro 0 _ rfl) Tryz.underlying32 rfl info_opd1 ?_;go_big_quiet_op;go_big_quiet_on
  go_big_quiet_want;refine quietC_call 79 #[.tmp 19,.tmp 20] _ #[.agg (staL s).toArray,.agg (opL' ⟨3,r,b,i,c,d⟩).toArray] (.int .u32 A) (fun u _=>by simp[Act.eval,go_sem]) (fun u hu=>(HOF.out u).mono fun _ _ ⟨h1,h2⟩=>⟨h1,hu.on h2⟩) ?_;go_big_quiet_op;go_big_quiet_on
  go_big_quiet_want;go_big_quiet_op;go_big_quiet_on
  go_big_quiet_want;refine quietC_call 131 #[.tmp 22] _ #[.int .i64 size] (.int .i64 N) (fun u _=>by simp[Act.eval,go_sem]) (fun u hu=>(HWI.out u).mono fun _ _ ⟨h1,h2⟩=>⟨h1,h2 ▸ hu⟩) ?_;go_big_quiet_op;go_big_quiet_on
  go_big_quiet_want;refine quietC_call 132 #[.tmp 18,.tmp 21,.tmp 23,.const (.int .i64 1)] _ #[.agg (sgL dd).toArray,.int .u32 A,.int .i64 N,.int .i64 1] (.tuple #[.int .u32 V,.int .i64 E]) (fun u _=>by simp[Act.eval,go_sem]) (fun u hu=>(HAT.out u).mono fun _ _ ⟨h1,h2⟩=>⟨h1,hu.on h2⟩) ?_;go_big_quiet_op;go_big_quiet_on
  go_big_quiet_want;go_big_quiet_op;go_big_quiet_on
  go_big_quiet_want;go_big_quiet_op;go_big_quiet_on
  go_big_quiet_want;go_big_quiet_op;go_big_quiet_on
  go_big_quiet_want;go_big_quiet_op;go_big_quiet_on
  go_big_quiet_want;go_big_quiet_op;go_big_quiet_on
  refine wpQuiet_nil ?_
  intro w5 hw5
  have HB:=Lib.hid hw5.bel
  clear hne hw5
  go_wp2_with fail
  go_ret
  exact⟨by rw[HPO1.out];rfl,HB.out⟩
 ·have ek:(k != 3)=true:=by simpa using hk
  have HPO1:=Lib.hid (HPO.out.trans (if_neg hk))
  clear hk HPO
  go_wp2_with fail
  go_ret
  exact⟨by rw[HPO1.out];rfl,HM.out.bel⟩
def fl(s:Sta)(c p z g o d:Bool):Sta:={ s with c:=c,p:=p,z:=z,s:=g,o:=o,d:=d }
theorem fl_ok{s:Sta}(h:StaOk s)(c p z g o d:Bool):StaOk (fl s c p z g o d):=⟨h.r,h.x,h.ip⟩
structure Calc where
 t:Sta
 v:Int
 n:Int
 st:Bool
def addQ(s:Sta)(x y n:Int)(c st:Bool):Calc:=⟨fl s (addC x y n c) (par (addV x y n c)) (zer (addV x y n c)) (hi (addV x y n c) n) (addO x y n c) false,addV x y n c,n,st⟩
def subQ(s:Sta)(x y n:Int)(c st:Bool):Calc:=⟨fl s (subC x y n c) (par (subV x y n c)) (zer (subV x y n c)) (hi (subV x y n c) n) (subO x y n c) false,subV x y n c,n,st⟩
def logQ(s:Sta)(z n:Int)(st:Bool):Calc:=⟨fl s false (par (cut z n)) (zer (cut z n)) (hi (cut z n) n) false false,cut z n,n,st⟩
def stepQ(s:Sta)(x n i:Int):Calc:=⟨fl s s.c (par (stepV x n i)) (zer (stepV x n i)) (hi (stepV x n i) n) (stepO x n i) s.d,stepV x n i,n,true⟩
def timesQ(s:Sta)(a c n:Int):Calc:=⟨fl s (imulC a c) s.p s.z s.s (imulC a c) s.d,imulL a c,n,true⟩
def shiftQ(s:Sta)(op x y n:Int):Calc:=⟨fl s (sfC op x (y%32).toNat s.c) (sfP op x (y%32).toNat s.p) (sfZ op x (y%32).toNat s.z) (sfS op x (y%32).toNat s.s) (sfO op x (y%32).toNat s.o) s.d,shV op x (y%32).toNat,n,true⟩
def calcF(s:Sta)(I:Ins)(x y:Int):Calc:=
 if I.op=1 then addQ s x y I.size false true
 else if I.op=3 then addQ s x y I.size s.c true
 else if I.op=6 then subQ s x y I.size false true
 else if I.op=8 then subQ s x y I.size false false
 else if I.op=4 then subQ s x y I.size s.c true
 else if I.op=5 then logQ s (bits .and .u32 x y) I.size true
 else if I.op=9 then logQ s (bits .and .u32 x y) I.size false
 else if I.op=2 then logQ s (bits .or .u32 x y) I.size true
 else if I.op=7 then logQ s (bits .xor .u32 x y) I.size true
 else if I.op=10 then⟨s,bits .xor .u32 4294967295 x,I.size,true⟩
 else if I.op=11 then subQ s 0 x I.size false true
 else if I.op=16 then stepQ s x I.size 1
 else if I.op=17 then stepQ s x I.size (-1)
 else if I.op=18 then⟨s,y,I.size,true⟩
 else if I.op=19 then⟨s,cut y I.size,4,true⟩
 else if I.op=20 then⟨s,sgn y I.size%4294967296,4,true⟩
 else if I.op=35 then⟨s,if condH I.cond s.c s.p s.z s.s s.o then 1 else 0,I.size,true⟩
 else if I.op=36 then⟨s,y,I.size,condH I.cond s.c s.p s.z s.s s.o⟩
 else if I.op=25 then(if I.cond=1 then timesQ s y I.c I.size else timesQ s (getF s I.a%4294967296) y I.size)
 else if I.op=26∨I.op=27∨I.op=28∨I.op=29∨I.op=30 then shiftQ s I.op x y I.size
 else⟨s,0,I.size,true⟩
def finT(dd:Sg)(s:Sta)(I:Ins)(q:Calc):Sta:=if q.st then(if putO dd s I.a q.n then putS q.t I.a q.v else s)else q.t
def finE(dd:Sg)(s:Sta)(I:Ins)(q:Calc):Int:=if q.st then(if putO dd s I.a q.n then 0 else 2)else 0
def finG(g:Int→Int)(dd:Sg)(s:Sta)(I:Ins)(q:Calc):Int→Int:=if q.st then putG g dd s I.a q.n q.v else g
def isWide(op:Int):Bool:=op==12 || op==13 || op==14 || op==15
def doneT(dd:Sg)(s:Sta)(I:Ins)(x y:Int):Sta:=
 if isWide I.op then(if wideO s I.op x then wideT s I.op x else s)
 else if I.op=22 then(if putO dd s I.a I.size&&putO dd s I.b I.size then putS (putS s I.a y) I.b x else s)
 else finT dd s I (calcF s I x y)
def doneE(dd:Sg)(s:Sta)(I:Ins)(x y:Int):Int:=
 if isWide I.op then(if wideO s I.op x then 0 else 3)
 else if I.op=22 then(if putO dd s I.a I.size&&putO dd s I.b I.size then 0 else 2)
 else finE dd s I (calcF s I x y)
def doneG(g:Int→Int)(dd:Sg)(s:Sta)(I:Ins)(x y:Int):Int→Int:=
 if isWide I.op then g
 else if I.op=22 then(if putO dd s I.a I.size&&putO dd s I.b I.size then putG (putG g dd s I.a I.size y) dd s I.b I.size x else g)
 else finG g dd s I (calcF s I x y)
theorem done_fin{g:Int→Int}{dd:Sg}{s T0:Sta}{I:Ins}{x y E0:Int}{G0:Int→Int}(h1:isWide I.op=false)(h2:¬I.op=22)(hT:doneT dd s I x y=T0)(hE:doneE dd s I x y=E0)(hG:doneG g dd s I x y=G0)(q:Calc)(hq:calcF s I x y=q):finT dd s I q=T0∧finE dd s I q=E0∧finG g dd s I q=G0:=by
 unfold doneT at hT
 unfold doneE at hE
 unfold doneG at hG
 rw[h1,if_neg (by decide),if_neg h2,hq]at hT hE hG
 exact⟨hT,hE,hG⟩
structure DI (w:World) (rb:Nat) (R:Nat→Prop) (g:Int→Int) (cc dd:Sg) (s t:Sta) (I:Ins) (u:World):Prop where
 bs:u.heap[w.heap.size]?=some (.cells (staL s).toArray 29 (0,0))
 bi:u.heap[w.heap.size+1]?=some (.cells (insL I).toArray 34 (0,0))
 br:∃C,u.heap[w.heap.size+2]?=some (.cells C 29 (0,0))∧C.size=23
 bt:u.heap[w.heap.size+3]?=some (.cells (staL t).toArray 29 (0,0))
 bus:RBus u rb R g cc dd
 own:∀k,R k→k<w.heap.size
 but:But R w u
section
variable {w:World} {rb:Nat} {R:Nat→Prop} {g g':Int→Int} {cc dd:Sg} {s t t':Sta} {I:Ins} {u u' Y:World}
theorem DI.below(h:DI w rb R g cc dd s t I u)(hb:Below u.heap.size u u'):DI w rb R g cc dd s t I u':=by
 have k:∀{j:Nat} {x:Obj},u.heap[j]?=some x→u'.heap[j]?=some x:=fun{j x} hj=>(hb.block j (Array.getElem?_eq_some_iff.1 hj).1).trans hj
 obtain⟨C,hC,hz⟩:=h.br
 exact⟨k h.bs,k h.bi,⟨C,k hC,hz⟩,k h.bt,h.bus.below hb,h.own,h.but.trans (But.of_below (F:=R) hb) (fun _ _ h=>h)⟩
theorem DI.wrote(h:DI w rb R g cc dd s t I u)(hr:RBus u' rb R g' cc dd)(hb:But R u u'):DI w rb R g' cc dd s t I u':=by
 have k:∀{j:Nat} {x:Obj},w.heap.size≤j→u.heap[j]?=some x→u'.heap[j]?=some x:=fun{j x} hl hj=>(hb.block j (Array.getElem?_eq_some_iff.1 hj).1 (fun hR=>by have:=h.own j hR;omega)).trans hj
 obtain⟨C,hC,hz⟩:=h.br
 exact⟨k (by omega) h.bs,k (by omega) h.bi,⟨C,k (by omega) hC,hz⟩,k (by omega) h.bt,hr,h.own,h.but.trans hb (fun _ _ h=>h)⟩
theorem DI.turned(h:DI w rb R g cc dd s t I u)(j:Nat)(hj:w.heap.size≤j)(hb:But (·=j) u Y)(k0:w.heap.size≠j)(k1:w.heap.size+1≠j)(hr:∃C,Y.heap[w.heap.size+2]?=some (.cells C 29 (0,0))∧C.size=23)(ht:Y.heap[w.heap.size+3]?=some (.cells (staL t').toArray 29 (0,0))):DI w rb R g cc dd s t' I Y:=by
 have k:∀{i:Nat} {x:Obj},i≠j→u.heap[i]?=some x→Y.heap[i]?=some x:=fun{i x} hl hi=>(hb.block i (Array.getElem?_eq_some_iff.1 hi).1 hl).trans hi
 refine⟨k k0 h.bs,k k1 h.bi,hr,ht,h.bus.but hb (fun i hi e=>by have:=h.own i hi;omega),h.own,?_⟩
 exact⟨hb.os.trans h.but.os,hb.tape.trans h.but.tape,hb.output.trans h.but.output,Nat.le_trans h.but.size hb.size,fun i hi hR=>(hb.block i (Nat.lt_of_lt_of_le hi h.but.size) (by omega)).trans (h.but.block i hi hR)⟩
theorem DI.cells{o:Nat}{vs:List Value}(h:DI w rb R g cc dd s t I u)(hY:Y=u.setCells (w.heap.size+3) o vs)(e:setL (staL t).toArray o vs=(staL t').toArray):DI w rb R g cc dd s t' I Y:=by
 have hb:But (·=w.heap.size+3) u Y:=by rw[hY];exact(But.refl (·=w.heap.size+3) u).cells (fun _=>rfl) _ _
 obtain⟨C,hC,hz⟩:=h.br
 refine h.turned (w.heap.size+3) (by omega) hb (by omega) (by omega) ⟨C,(hb.block _ (Array.getElem?_eq_some_iff.1 hC).1 (by omega)).trans hC,hz⟩ ?_
 rw[hY,←e]
 exact block_setCells vs o u _ h.bt
theorem DI.res{vs:List Value}(h:DI w rb R g cc dd s t I u)(hY:Y=u.setCells (w.heap.size+2) 0 vs):DI w rb R g cc dd s t I Y:=by
 have hb:But (·=w.heap.size+2) u Y:=by rw[hY];exact(But.refl (·=w.heap.size+2) u).cells (fun _=>rfl) _ _
 obtain⟨C,hC,hz⟩:=h.br
 refine h.turned (w.heap.size+2) (by omega) hb (by omega) (by omega) ⟨_,by rw[hY];exact block_setCells vs 0 u _ hC,by rw[setL_size];exact hz⟩ ((hb.block _ (Array.getElem?_eq_some_iff.1 h.bt).1 (by omega)).trans h.bt)
theorem DI.has(h:DI w rb R g cc dd s t I u)(o n:Nat)(hn:o+n≤23):u.there (w.heap.size+3) o n:=there_block h.bt o n hn
theorem DI.hasr(h:DI w rb R g cc dd s t I u):u.there (w.heap.size+2) 0 23:=by obtain⟨C,hC,hz⟩:=h.br;exact there_block hC 0 23 (by omega)
theorem DI.op(h:DI w rb R g cc dd s t I u):u.cell? ⟨w.heap.size+1,0,none⟩=some (.int .i64 I.op):=(cell_block h.bi 0).1
theorem DI.cond(h:DI w rb R g cc dd s t I u):u.cell? ⟨w.heap.size+1,1,none⟩=some (.int .i64 I.cond):=(cell_block h.bi 1).1
theorem DI.size(h:DI w rb R g cc dd s t I u):u.cell? ⟨w.heap.size+1,2,none⟩=some (.int .i64 I.size):=(cell_block h.bi 2).1
theorem DI.c(h:DI w rb R g cc dd s t I u):u.cell? ⟨w.heap.size+1,15,none⟩=some (.int .u32 I.c):=(cell_block h.bi 15).1
theorem DI.carry(h:DI w rb R g cc dd s t I u):u.cell? ⟨w.heap.size,9,none⟩=some (.bool s.c):=(cell_block h.bs 9).1
theorem DI.rs(h:DI w rb R g cc dd s t I u):u.rangeAt w.heap.size 0 (staL s):=range_in13 h.bs 0 _ rfl
theorem DI.rt(h:DI w rb R g cc dd s t I u):u.rangeAt (w.heap.size+3) 0 (staL t):=range_in13 h.bt 0 _ rfl
theorem DI.rf(h:DI w rb R g cc dd s t I u):u.rangeAt w.heap.size 9 (flL s.c s.p s.z s.s s.o s.d):=range_in13 h.bs 9 _ rfl
theorem DI.ra(h:DI w rb R g cc dd s t I u):u.rangeAt (w.heap.size+1) 3 (opL' I.a):=range_in13 h.bi 3 _ rfl
theorem DI.rbo(h:DI w rb R g cc dd s t I u):u.rangeAt (w.heap.size+1) 9 (opL' I.b):=range_in13 h.bi 9 _ rfl
end
theorem setL_whole23(t:Sta)(s:Sta):setL (staL s).toArray 0 (staL t)=(staL t).toArray:=setL_whole t (by rfl)
theorem setL_fl15(s:Sta)(c p z g o d:Bool):setL (staL s).toArray 9 (flL c p z g o d)=(staL (fl s c p z g o d)).toArray:=setL_fl s c p z g o d
def onlyB(op:Int):Bool:=op==18 || op==19 || op==20 || op==35 || op==25 || op==36
def cdqV(a:Int):Int:=if a<2147483648 then 0 else 4294967295
def soleB(op:Int):Bool:=op==37 || op==38 || op==41 || op==42 || op==43 || op==44 || op==45 || op==50 || op==21
def soleT(s:Sta)(I:Ins):Sta:=
 if I.op=37 then{ s with r:=putN s.r 0 (sgn (s.r 0) 2%4294967296) }
 else if I.op=38 then{ s with r:=putN s.r 2 (cdqV (s.r 0)) }
 else if I.op=41 then{ s with c:=false }
 else if I.op=42 then{ s with c:=true }
 else if I.op=43 then{ s with c:=!s.c }
 else if I.op=21 then setF s I.a (ofF s I.b)
 else s
def xA(g:Int→Int)(dd:Sg)(s:Sta)(I:Ins):Int:=if onlyB I.op then 0 else ldA g dd s I.a I.size%4294967296
def yA(g:Int→Int)(dd:Sg)(s:Sta)(I:Ins):Int:=if I.b.kind=0 then 0 else ldA g dd s I.b I.size%4294967296
def okA(dd:Sg)(s:Sta)(I:Ins):Bool:=(onlyB I.op || ldO dd s I.a I.size)&&(I.b.kind==0 || ldO dd s I.b I.size)
def aluT(g:Int→Int)(dd:Sg)(s:Sta)(I:Ins):Sta:=if soleB I.op then soleT s I else if okA dd s I then doneT dd s I (xA g dd s I) (yA g dd s I)else s
def aluE(g:Int→Int)(dd:Sg)(s:Sta)(I:Ins):Int:=if soleB I.op then 0 else if okA dd s I then doneE dd s I (xA g dd s I) (yA g dd s I)else 2
def aluG(g:Int→Int)(dd:Sg)(s:Sta)(I:Ins):Int→Int:=if soleB I.op then g else if okA dd s I then doneG g dd s I (xA g dd s I) (yA g dd s I)else g
def RDoneC:Prop:=∀(rb:Nat) (R:Nat→Prop) (g:Int→Int) (cc dd:Sg) (s:Sta) (I:Ins) (x y:Int),StaOk s→(0≤I.a.disp∧I.a.disp<4294967296)→(0≤I.b.disp∧I.b.disp<4294967296)→(0≤I.c∧I.c<4294967296)→0≤x→x<4294967296→0≤y→y<4294967296→∀w:World,RBus w rb R g cc dd →
  Calls Tryz.prog 82 #[.pointer (some ⟨rb,0,none⟩),staV s,insV I,.int .u32 x,.int .u32 y] w fun e w'=>e=.returned (.tuple #[staV (doneT dd s I x y),.int .i64 (doneE dd s I x y)])∧RBus w' rb R (doneG g dd s I x y) cc dd∧But R w w'
theorem ronly_any(op:Int)(w:World):Calls Tryz.prog 80 #[.int .i64 op] w fun e w'=>e=.returned (.bool (onlyB op))∧w=w':=by
 by_cases h18:op=18
 ·subst h18
  go_enter Tryz.func80,Tryz.ntmps80
  go_wp2
  go_ret
  exact⟨rfl,rfl⟩
 have e18:(op==18)=false:=by simpa using h18
 by_cases h19:op=19
 ·subst h19
  go_enter Tryz.func80,Tryz.ntmps80
  go_wp2
  go_ret
  exact⟨rfl,rfl⟩
 have e19:(op==19)=false:=by simpa using h19
 by_cases h20:op=20
 ·subst h20
  go_enter Tryz.func80,Tryz.ntmps80
  go_wp2
  go_ret
  exact⟨rfl,rfl⟩
 have e20:(op==20)=false:=by simpa using h20
 by_cases h35:op=35
 ·subst h35
  go_enter Tryz.func80,Tryz.ntmps80
  go_wp2
  go_ret
  exact⟨rfl,rfl⟩
 have e35:(op==35)=false:=by simpa using h35
 by_cases h25:op=25
 ·subst h25
  go_enter Tryz.func80,Tryz.ntmps80
  go_wp2
  go_ret
  exact⟨rfl,rfl⟩
 have e25:(op==25)=false:=by simpa using h25
 by_cases h36:op=36
 ·subst h36
  go_enter Tryz.func80,Tryz.ntmps80
  go_wp2
  go_ret
  exact⟨rfl,rfl⟩
 have e36:(op==36)=false:=by simpa using h36
 have HV:=Lib.hid (show onlyB op=false by simp[onlyB,h18,h19,h20,h35,h25,h36])
 clear h18 h19 h20 h35 h25 h36
 go_enter Tryz.func80,Tryz.ntmps80
 go_wp2
 go_ret
 exact⟨by rw[HV.out];rfl,rfl⟩
theorem ldA_lo(g:Int→Int)(dd:Sg)(s:Sta)(I:Ins):0≤xA g dd s I∧xA g dd s I<4294967296:=by unfold xA;split<;>omega
theorem ldB_lo(g:Int→Int)(dd:Sg)(s:Sta)(I:Ins):0≤yA g dd s I∧yA g dd s I<4294967296:=by unfold yA;split<;>omega
theorem cdq_walk(a:Int)(h0:0≤a)(h1:a<4294967296):wrap32 a/2147483648%4294967296=cdqV a:=by
 unfold wrap32 cdqV
 split<;>omega
end Go.Proofs.YtmdncgfheeijaaaGreat
