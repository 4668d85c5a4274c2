import Derived.Laws.IdiomStrings
import Derived.Laws.AppendOwn
import Derived.Laws.BitsAllLaws
import Derived.Deep.RegionWith
import Derived.BigQuiet
import Derived.Deep.QuietTactic
import Derived.KernelRfl
import Derived.Great.BuildSlice
import Derived.DeepKeys
import Derived.Laws.StructEq
import Derived.Test.YtmdncgfheeijaaaGreatKUG25
import Derived.Test.YtmdncgfheeijaaaGreatKUG48
import Derived.Test.YtmdncgfheeijaaaGreatKUG49
namespace Go.Proofs.YtmdncgfheeijaaaGreat
open Go.ChangeShapes Go.WideShapes Go.ChangeAt Go.RowKit
set_option maxRecDepth 100000
def OwnB(w:World)(base:Nat)(v:Value)(l:List Int):Prop:=
 ∃g cap,v=.slice (some ⟨g,0,none⟩) l.length cap∧base≤g∧g<w.heap.size∧l.length≤cap∧cap≤maxLen∧w.rangeAt g 0 (l.map (.int .u8))∧w.there g 0 cap
theorem OwnB.slc{w:World}{base:Nat}{v:Value}{l:List Int}(h:OwnB w base v l):Slc .u8 w v l.length (lst l):=by
 obtain⟨g,cap,rfl,_,_,hc,_,hr,_⟩:=h
 refine .inr ⟨_,_,rfl,hc,fun i hi=>?_⟩
 rw[addr_add]
 exact hr i _ (lst_map l i hi)
theorem OwnB.below{w w':World}{base:Nat}{v:Value}{l:List Int}(h:OwnB w base v l)(hb:Below w.heap.size w w'):OwnB w' base v l:=by
 obtain⟨g,cap,rfl,h1,h2,h3,h4,h5,h6⟩:=h
 refine⟨g,cap,rfl,h1,Nat.lt_of_lt_of_le h2 hb.size,h3,h4,fun j v hj=>?_,there_but (F:=fun _=>False) (But.of_below hb) (fun h=>h) h2 h6⟩
 rw[hb.cell (p:=⟨g,0+j,none⟩) h2]
 exact h5 j v hj
theorem OwnB.mono{w:World}{base base':Nat}{v:Value}{l:List Int}(h:OwnB w base v l)(hb:base'≤base):OwnB w base' v l:=by
 obtain⟨g,cap,h0,h1,h2⟩:=h
 exact⟨g,cap,h0,Nat.le_trans hb h1,h2⟩
theorem OwnB.len{w:World}{base:Nat}{v:Value}{l:List Int}(h:OwnB w base v l):∃a cap,v=.slice a l.length cap:=by
 obtain⟨g,cap,rfl,_⟩:=h
 exact⟨_,_,rfl⟩
theorem OwnB.made(w:World)(base:Nat)(hb:base≤w.heap.size)(C:Array Value)(T:TypeId)(fz:Nat×Nat)(l:List Int)(hC:C.size≤maxLen)(hl:l.length≤C.size)(hr:∀i,i<l.length→C[i]?=some (.int .u8 (lst l i)))(hz:fz.2=0∨C.size≤fz.1)(cap:Nat)(hcap:cap=C.size):
  OwnB (w.alloc (.cells C T fz)) base (.slice (some ⟨w.heap.size,0,none⟩) l.length cap) l:=by
 subst hcap
 have hh:(w.alloc (.cells C T fz)).heap[w.heap.size]?=some (.cells C T fz):=by
  show(w.heap.push _)[w.heap.size]?=_
  simp
 have hc:∀j,(w.alloc (.cells C T fz)).cell? ⟨w.heap.size,j,none⟩=C[j]?:=fun j=>by
  unfold World.cell?
  simp only
  rw[hh]
  simp
 refine⟨_,_,rfl,hb,by simp,hl,hC,fun j v hj=>?_,fun j hj=>?_⟩
 ·have hj':j<l.length:=by
   have:=(List.getElem?_eq_some_iff.1 hj).1
   simpa using this
  rw[lst_map l j hj']at hj
  rw[Nat.zero_add,hc,hr j hj']
  exact hj
 ·rw[Nat.zero_add,hc]
  refine⟨by rw[Array.getElem?_eq_getElem hj];rfl,?_⟩
  obtain⟨lo,hi⟩:=fz
  unfold World.frozen?
  simp only
  rw[hh]
  simp only[Bool.and_eq_false_iff,decide_eq_false_iff_not]
  simp only at hz
  omega
theorem append_ownB{w:World}{ops:Array Oper}{rest:List Oper}{o:Oper}{a:Act}{Q:Exit→Act→World→Prop}
  (hg:o.guard=none) (s x:Operand) (hop:o.op=Op.call { callee:=Callee.builtin Builtin.append,args:=#[s,x],argTypes:=#[37,37] })
  (base:Nat) (v1 v2:Value) (l1 l2:List Int) (hs:a.eval s=v1) (hx:a.eval x=v2) (h1:OwnB w base v1 l1) (h2:Slc .u8 w v2 l2.length (lst l2)) (h0:0<l2.length) (hb:l1.length+l2.length≤1000000) (hbase:base≤w.heap.size)
  (hK:∀v' w',OwnB w' base v' (l1++l2)→OwnB w' base v1 l1→(∀W,Below base W w→Below base W w')→w.heap.size≤w'.heap.size→wpList Tryz.prog ops Q rest (a.put o.dst v') w'):
  wpList Tryz.prog ops Q (o :: rest) a w:=by
 obtain⟨i0,hi,hz0,hz1,hz2⟩:=info_parts info_u8'
 rcases h2 with⟨_,h⟩|⟨b,c,rfl,hc,hcell⟩
 ·omega
 have hold:=h1
 obtain⟨g,cap,rfl,g1,g2,g3,g4,g5,g6⟩:=h1
 have hnews:∀j u,(l2.map (Value.int .u8))[j]?=some u→w.cell? (b.add j)=some u:=fun j u hj=>by
  have hjl:j<l2.length:=by
   have:=(List.getElem?_eq_some_iff.1 hj).1
   simpa using this
  rw[lst_map l2 j hjl]at hj
  rw[hcell j hjl]
  exact hj
 have holds:∀j u,(l1.map (Value.int .u8))[j]?=some u→w.cell? ((⟨g,0,none⟩:Addr).add j)=some u:=fun j u hj=>by
  rw[addr_add]
  exact g5 j u hj
 have fin:∀v' w',(Builtin.append_ #[37,37] o.type #[.slice (some ⟨g,0,none⟩) l1.length cap,.slice (some b) l2.length c]).run Tryz.prog w=.ok v' w'→wpList Tryz.prog ops Q rest (a.put o.dst v') w'→wpList Tryz.prog ops Q (o :: rest) a w:=fun v' w' hr hk=>
  wpList_plain hg fun _ hh=>by
   unfold Oper.wp execOp
   simp only[hop,resolve,invoke,builtin,Sem.run_bind,Sem.run_pure,Result.andThen_ok,List.map_toArray,List.map_cons,List.map_nil,hs,hx,hr]
   exact hh _ _ hk
 by_cases hroom:l1.length+l2.length≤cap
 ·have hst:=run_storeCells_cells (P:=Tryz.prog) g l1.length (l2.map (Value.int .u8)) 0 w (fun j hj=>by
    have hj':j<l2.length:=by simpa using hj
    have:=(g6 (l1.length+j) (by omega)).1
    rw[Nat.zero_add]at this
    simpa[addr_add]using this) (fun j hj=>by
    have hj':j<l2.length:=by simpa using hj
    have:=(g6 (l1.length+j) (by omega)).2
    rw[Nat.zero_add]at this
    simpa[addr_add]using this) (int_one .u8 l2)
  simp only[Nat.add_zero]at hst
  have hf:=run_firstCells_some (P:=Tryz.prog) w i0.size l2.length b l2.length c (l2.map (Value.int .u8)) (by rw[hz1];simp) hnews
  refine fin (.slice (some ⟨g,0,none⟩) (l1.length+l2.length) cap) (w.setCells g l1.length (l2.map (Value.int .u8))) ?_ ?_
  ·simp[Builtin.append_,run_underlying (Tryz.underlying37),sizeOf,typeInfo,hi,Builtin.lenOf,hroom,Addr.add_lit,hz1]
   rw[hz1]at hf
   simp[hf,hst]
  ·refine hK _ _ ⟨g,cap,by rw[List.length_append],g1,by rw[setCells_size];exact g2,by rw[List.length_append];exact hroom,g4,?_,World.there_setCells g6 _ _ _⟩ ⟨g,cap,rfl,g1,by rw[setCells_size];exact g2,g3,g4,World.rangeAt_setCells_apart g5 g l1.length (l2.map (Value.int .u8)) (.inr (.inl (by simp))),World.there_setCells g6 _ _ _⟩ (fun W hW=>below_setCells g1 _ _ _ hW) (by rw[setCells_size];exact Nat.le_refl _)
   intro j v hj
   rw[List.map_append]at hj
   by_cases hjl:j<l1.length
   ·rw[List.getElem?_append_left (by simpa using hjl)]at hj
    exact World.rangeAt_setCells_apart g5 g l1.length (l2.map (Value.int .u8)) (.inr (.inl (by simp))) j v hj
   ·rw[List.getElem?_append_right (by simp;omega)]at hj
    have hsame:=World.rangeAt_setCells_same w g l1.length (l2.map (Value.int .u8)) (fun i hi=>by
     have hi':i<l2.length:=by simpa using hi
     have:=g6 (l1.length+i) (by omega)
     rw[Nat.zero_add]at this
     exact this) (j-l1.length) v (by simpa using hj)
    rw[show l1.length+(j-l1.length)=0+j by omega]at hsame
    exact hsame
 ·have hr:=run_append_grow (P:=Tryz.prog) w 37 o.type 5 i0 (.int .u8 0) Tryz.underlying37 hi hz0 ⟨g,0,none⟩ l1.length cap (l1.map (Value.int .u8)) (by rw[hz1];simp) holds b l2.length c (l2.map (Value.int .u8)) (by rw[hz1];simp) hnews (by omega) (by omega) (growslice_fits (by omega) (by rw[hz2];omega))
  have hge:=grownCap_ge w (l1.length+l2.length) cap 5
  have hle:=grownCap_le_maxLen w (l1.length+l2.length) cap 5 (by unfold maxLen;omega)
  refine fin _ _ hr ?_
  refine hK _ _ ?_ (hold.below ((Below.refl _ w).drew.alloc (Nat.le_refl _) _)) (fun W hW=>(hW.drew).alloc (by exact hbase) _) (by simp)
  have hsz:((l1.map (Value.int .u8)).toArray++(l2.map (Value.int .u8)).toArray++Builtin.zeroCells (Value.int .u8 0).cells (grownCap w (l1.length+l2.length) cap 5-(l1.length+l2.length))).size=grownCap w (l1.length+l2.length) cap 5:=by
   simp only[Array.size_append,List.size_toArray,List.length_map,size_zeroCells,Value.cells]
   simp
   omega
  have hm:=OwnB.made w.drew base hbase ((l1.map (Value.int .u8)).toArray++(l2.map (Value.int .u8)).toArray++Builtin.zeroCells (Value.int .u8 0).cells (grownCap w (l1.length+l2.length) cap 5-(l1.length+l2.length))) 5 (0,0) (l1++l2) (by rw[hsz];exact hle) (by rw[hsz,List.length_append];exact hge) (fun i hi=>by
   rw[List.length_append]at hi
   rw[Array.getElem?_append_left (by simpa using hi),←lst_map (k:=.u8) (l1++l2) i (by rw[List.length_append];exact hi)]
   simp) (.inl rfl) _ hsz.symm
  rw[List.length_append]at hm
  exact hm
theorem convert_ownB{w:World}{ops:Array Oper}{rest:List Oper}{o:Oper}{a:Act}{Q:Exit→Act→World→Prop}
  (hg:o.guard=none) (x:Operand) (hop:o.op=Op.convert 9 37 x) (base:Nat) (l:List Int) (hx:a.eval x=.string ⟨(l.map fun i=>UInt8.ofNat i.toNat).toArray⟩) (h8:∀i∈l,0≤i∧i<256) (hl:l.length≤1000000) (hbase:base≤w.heap.size)
  (hK:∀v' w',OwnB w' base v' l→(∀W,Below base W w→Below base W w')→w.heap.size≤w'.heap.size→wpList Tryz.prog ops Q rest (a.put o.dst v') w'):
  wpList Tryz.prog ops Q (o :: rest) a w:=
 wpList_plain hg fun _ hh=>by
  obtain⟨S,hS⟩:∃S:ByteArray,S=⟨(l.map fun i=>UInt8.ofNat i.toNat).toArray⟩:=⟨_,rfl⟩
  rw[←hS]at hx
  have hsl:S.size=l.length:=by rw[hS];show(l.map _).toArray.size=_;simp
  have hr:=run_bytes_of_string (P:=Tryz.prog) w 9 37 5 S Tryz.underlying9 Tryz.underlying37 Tryz.underlying5
  have hge:=grownCap_ge w S.size 0 5
  have hle:=grownCap_le_maxLen w S.size 0 5 (by rw[hsl];unfold maxLen;omega)
  have hsz:(bytesRow S (grownCap w S.size 0 5)).size=grownCap w S.size 0 5:=by
   unfold bytesRow
   simp only[Array.size_append,Array.size_map,Array.size_replicate]
   show S.size+_=_
   omega
  unfold Oper.wp execOp
  simp only[hop,hx,Sem.run_bind,hr,Result.andThen_ok,Sem.run_pure]
  refine hh _ _ (hK _ _ ?_ (fun W hW=>(hW.drew).alloc (by exact hbase) _) (by simp))
  have hm:=OwnB.made w.drew base hbase (bytesRow S (grownCap w S.size 0 5)) 5 ((bytesRow S (grownCap w S.size 0 5)).size,(bytesRow S (grownCap w S.size 0 5)).size+1) l (by rw[hsz];exact hle) (by rw[hsz,←hsl];exact hge) (fun i hi=>by
   have h8i:=h8 (l[i]) (List.getElem_mem hi)
   unfold bytesRow
   rw[Array.getElem?_append_left (by simp;show i<S.size;omega)]
   have e:lst l i=l[i]:=by unfold lst;simp[List.getD_eq_getElem?_getD,List.getElem?_eq_getElem hi]
   rw[e,hS]
   simp[List.getElem?_eq_getElem hi]
   omega) (.inr (Nat.le_refl _)) _ hsz.symm
  rw[←hsl]at hm
  exact hm
def headsL:List (List Int):=[[1],[3],[0],[2],[5],[4],[17],[25],[33],[41],[49],[57],[11],[64],[73],[80],[90],[104],[106],[105],[107],[112],[128],[129],[131],[132],[133],[134],[135],[136],[137],[138],[139],[141],[143],[144],[147],[152],[153],[160],[161],[162],[163],[164],[165],[168],[169],[170],[171],[172],[173],[177],[185],[193],[194],[195],[198],[199],[201],[204],[209],[211],[232],[233],[235],[244],[245],[246],[247],[248],[249],[252],[253],[254],[255],[15,68],[15,133],[15,159],[15,175],[15,182],[15,183],[15,190],[15,191],[243,164],[243,165],[243,170],[243,171],[242,15,16],[242,15,17],[242,15,42],[242,15,44],[242,15,81],[242,15,88],[242,15,89],[242,15,92],[242,15,93],[242,15,94],[242,15,95],[102,15,46]]
def hdS(l:List Int):Value:=.string ⟨(l.map fun i=>UInt8.ofNat i.toNat).toArray⟩
def headsA:Array Value:=(headsL.map hdS).toArray
def headF(k:Int):List Int:=headsL.getD (k%99).toNat []
theorem heads_all:headsL.all (fun l=>decide (1≤l.length)&&decide (l.length≤3)&&l.all fun i=>decide (0≤i)&&decide (i<256))=true:=by kernel_rfl
theorem heads_len:headsL.length=99:=by kernel_rfl
theorem head_ok(k:Int):1≤(headF k).length∧(headF k).length≤3∧∀i∈headF k,0≤i∧i<256:=by
 have hk:(k%99).toNat<headsL.length:=by rw[heads_len];omega
 have hm:headF k∈headsL:=by
  unfold headF
  rw[List.getD_eq_getElem?_getD,List.getElem?_eq_getElem hk]
  exact List.getElem_mem hk
 have h:=List.all_eq_true.1 heads_all _ hm
 simp only[Bool.and_eq_true,decide_eq_true_eq,List.all_eq_true]at h
 exact⟨h.1.1,h.1.2,h.2⟩
theorem heads_at(k:Int):headsA[(k%99).toNat]?=some (hdS (headF k)):=by
 have hk:(k%99).toNat<headsL.length:=by rw[heads_len];omega
 unfold headsA headF
 simp[List.getElem?_eq_getElem hk]
set_option maxHeartbeats 4000000
theorem heads_any(w:World):Calls Tryz.prog 27 #[] w fun e w'=>e=.returned (.slice (some ⟨w.heap.size,0,none⟩) 99 99)∧w'=w.alloc (.cells headsA 9):=by
 obtain⟨ie,hie,hz,hsz⟩:∃ie,Tryz.prog.info? 9=some ie∧ie.zero=some (.string ⟨#[]⟩)∧ie.size=1:=by
  have h:(Tryz.prog.info? 9).map (fun i=>(i.zero,i.size))=some (some (.string ⟨#[]⟩),1):=by kernel_rfl
  cases hi:Tryz.prog.info? 9 with
  |none=>rw[hi]at h;cases h
  |some i=>
   rw[hi]at h
   simp only[Option.map_some,Option.some.injEq,Prod.mk.injEq]at h
   exact⟨i,rfl,h.1,h.2⟩
 go_enter Tryz.func27,Tryz.ntmps27
 go_wp2_with (refine wpList_buildSlice rfl 43 9 99 _ rfl headsA ie (.string ⟨#[]⟩) Tryz.underlying43 hie hz (by rw[hsz];decide) (by rw[hsz];decide) (by rw[hsz];kernel_rfl) ?_)
 go_ret
 exact⟨rfl,rfl⟩
theorem and63(z:Int)(h0:0≤z)(h1:z<256):bits .and .u8 z 63=z%64:=by
 obtain⟨n,rfl⟩:=Int.eq_ofNat_of_zero_le h0
 have hn:n<256:=by omega
 revert hn
 clear h0 h1
 revert n
 decide +kernel
theorem and127(z:Int)(h0:0≤z)(h1:z<256):bits .and .u8 z 127=z%128:=by
 obtain⟨n,rfl⟩:=Int.eq_ofNat_of_zero_le h0
 have hn:n<256:=by omega
 revert hn
 clear h0 h1
 revert n
 decide +kernel
def bytesF(k rm d:Int):List Int:=headF k++(if d%4=0 then[rm,d%256,d/256%256,d/65536%256,d/16777216]else[rm,d%128,0,0,0])++[d/8%64,0,0,0,0,0,0]
theorem bytesF_len(k rm d:Int):13≤(bytesF k rm d).length∧(bytesF k rm d).length≤15:=by
 obtain⟨h1,h2,_⟩:=head_ok k
 unfold bytesF
 simp only[List.length_append]
 split<;>simp<;>omega
theorem bytesF_ok(k rm d:Int)(r0:0≤rm)(r1:rm<256)(d0:0≤d)(d1:d<4294967296):∀x∈bytesF k rm d,0≤x∧x<256:=by
 intro x hx
 unfold bytesF at hx
 rcases List.mem_append.1 hx with hx|hx
 ·rcases List.mem_append.1 hx with hx|hx
  ·exact(head_ok k).2.2 x hx
  ·split at hx
   ·simp only[List.mem_cons,List.not_mem_nil,or_false]at hx
    rcases hx with rfl|rfl|rfl|rfl|rfl<;>omega
   ·simp only[List.mem_cons,List.not_mem_nil,or_false]at hx
    rcases hx with rfl|rfl|rfl|rfl|rfl<;>omega
 ·simp only[List.mem_cons,List.not_mem_nil,or_false]at hx
  rcases hx with rfl|rfl|rfl|rfl|rfl|rfl|rfl<;>omega
theorem bytes_any(k rm d:Int)(w:World)(k0:0≤k)(k1:k<256)(d0:0≤d)(d1:d<4294967296):
  Calls Tryz.prog 11 #[.int .u8 k,.int .u8 rm,.int .u32 d] w fun e w'=>∃v,e=.returned v∧OwnB w' w.heap.size v (bytesF k rm d)∧Below w.heap.size w w':=by
 have hh:=heads_at k
 have HO:=Lib.hid (head_ok k)
 have n1:bits .and .u8 (d/8%256) 63=d/8%64:=by rw[and63 _ (by omega) (by omega)];omega
 have n2:bits .and .u8 (d%256) 127=d%128:=by rw[and127 _ (by omega) (by omega)];omega
 go_enter Tryz.func11,Tryz.ntmps11
 go_wp2_with fail
 refine(heads_any _).mono ?_
 rintro e w' ⟨rfl,rfl⟩
 have HB0:=Lib.hid (show Below (w.heap.size+1) (w.alloc (.cells headsA 9)) (w.alloc (.cells headsA 9))from Below.refl _ _)
 have HC:=Lib.hid (fun(u:World) (hu:Below (w.heap.size+1) (w.alloc (.cells headsA 9)) u)=>(hu.cell (p:=⟨w.heap.size,(k%99).toNat,none⟩) (Nat.lt_succ_self _)).trans ((World.cell?_alloc_new _ _ _ _).trans hh))
 by_cases h4:d%4=0
 ·have hd:decide (0<d%4)=false:=by simp;omega
  have HF:=Lib.hid (show bytesF k rm d=headF k++[rm,d%256,d/256%256,d/65536%256,d/16777216]++[d/8%64,0,0,0,0,0,0]by unfold bytesF;rw[if_pos h4])
  clear h4
  go_wp2_with (first
   |(refine convert_ownB rfl (.tmp 17) rfl (w.heap.size+1) (headF k) rfl HO.out.2.2 (by have:=HO.out.2.1;omega) (by simp) ?_;intro v1 w1 ho hb hs;have HO1:=Lib.hid ho;have HB1:=Lib.hid (hb _ HB0.out);clear ho hb hs)
   |(at_builtin;refine append_ownB rfl (.tmp 18) (.tmp 31) rfl (w.heap.size+1) v1 (.slice (some ⟨w1.heap.size,0,none⟩) 5 5) (headF k) [rm,d%256,d/256%256,d/65536%256,d/16777216] rfl rfl (HO1.out.below (below_last (Below.refl _ _) _)) (slc_new w1 _ _ 5 5 _ (Nat.le_refl _) (by intro i hi;match i,hi with|0,_=>rfl|1,_=>rfl|2,_=>rfl|3,_=>rfl|4,_=>rfl)) (by simp) (by have:=HO.out.2.1;simp;omega) (by have:=HB1.out.size;simp at this ⊢;omega) ?_;intro v2 w2 ho _ hb hs;have HO2:=Lib.hid ho;have HB2:=Lib.hid (hb _ (HB1.out.alloc (by have:=HB1.out.size;simp at this ⊢;omega) _));clear ho hb hs)
   |(at_builtin;refine append_ownB rfl (.tmp 51) (.tmp 56) rfl (w.heap.size+1) v2 (.slice (some ⟨w2.heap.size,0,none⟩) 7 7) (headF k++[rm,d%256,d/256%256,d/65536%256,d/16777216]) [d/8%64,0,0,0,0,0,0] rfl rfl (HO2.out.below (below_last (Below.refl _ _) _)) (slc_new w2 _ _ 7 7 _ (Nat.le_refl _) (by intro i hi;match i,hi with|0,_=>rfl|1,_=>rfl|2,_=>rfl|3,_=>rfl|4,_=>rfl|5,_=>rfl|6,_=>rfl)) (by simp) (by have:=HO.out.2.1;simp;omega) (by have:=HB2.out.size;simp at this ⊢;omega) ?_;intro v3 w3 ho _ hb hs;have HO3:=Lib.hid ho;have HB3:=Lib.hid (hb _ (HB2.out.alloc (by have:=HB2.out.size;simp at this ⊢;omega) _));clear ho hb hs))
  go_ret
  exact⟨_,rfl,by rw[HF.out];exact HO3.out.mono (Nat.le_succ _),(below_last (Below.refl _ _) _).trans (HB3.out.mono (Nat.le_succ _))⟩
 ·have hd:decide (0<d%4)=true:=by simp;omega
  have HF:=Lib.hid (show bytesF k rm d=headF k++[rm,d%128,0,0,0]++[d/8%64,0,0,0,0,0,0]by unfold bytesF;rw[if_neg h4])
  clear h4
  go_wp2_with (first
   |(refine convert_ownB rfl (.tmp 17) rfl (w.heap.size+1) (headF k) rfl HO.out.2.2 (by have:=HO.out.2.1;omega) (by simp) ?_;intro v1 w1 ho hb hs;have HO1:=Lib.hid ho;have HB1:=Lib.hid (hb _ HB0.out);clear ho hb hs)
   |(at_builtin;refine append_ownB rfl (.tmp 18) (.tmp 31) rfl (w.heap.size+1) v1 (.slice (some ⟨w1.heap.size,0,none⟩) 5 5) (headF k) [rm,d%256,d/256%256,d/65536%256,d/16777216] rfl rfl (HO1.out.below (below_last (Below.refl _ _) _)) (slc_new w1 _ _ 5 5 _ (Nat.le_refl _) (by intro i hi;match i,hi with|0,_=>rfl|1,_=>rfl|2,_=>rfl|3,_=>rfl|4,_=>rfl)) (by simp) (by have:=HO.out.2.1;simp;omega) (by have:=HB1.out.size;simp at this ⊢;omega) ?_;intro v2 w2 ho _ hb hs;have HO2:=Lib.hid ho;have HB2:=Lib.hid (hb _ (HB1.out.alloc (by have:=HB1.out.size;simp at this ⊢;omega) _));have hc2:=HC.out _ HB2.out;clear ho hb hs)
   |(refine convert_ownB rfl (.tmp 43) rfl (w.heap.size+1) (headF k) rfl HO.out.2.2 (by have:=HO.out.2.1;omega) (by have:=HB2.out.size;simpa using this) ?_;intro v3 w3 ho hb hs;have HO3:=Lib.hid ho;have HB3:=Lib.hid (hb _ HB2.out);clear ho hb hs)
   |(at_builtin;refine append_ownB rfl (.tmp 44) (.tmp 49) rfl (w.heap.size+1) v3 (.slice (some ⟨w3.heap.size,0,none⟩) 5 5) (headF k) [rm,d%128,0,0,0] rfl rfl (HO3.out.below (below_last (Below.refl _ _) _)) (slc_new w3 _ _ 5 5 _ (Nat.le_refl _) (by intro i hi;match i,hi with|0,_=>rfl|1,_=>rfl|2,_=>rfl|3,_=>rfl|4,_=>rfl)) (by simp) (by have:=HO.out.2.1;simp;omega) (by have:=HB3.out.size;simp at this ⊢;omega) ?_;intro v4 w4 ho _ hb hs;have HO4:=Lib.hid ho;have HB4:=Lib.hid (hb _ (HB3.out.alloc (by have:=HB3.out.size;simp at this ⊢;omega) _));clear ho hb hs)
   |(at_builtin;refine append_ownB rfl (.tmp 51) (.tmp 56) rfl (w.heap.size+1) v4 (.slice (some ⟨w4.heap.size,0,none⟩) 7 7) (headF k++[rm,d%128,0,0,0]) [d/8%64,0,0,0,0,0,0] rfl rfl (HO4.out.below (below_last (Below.refl _ _) _)) (slc_new w4 _ _ 7 7 _ (Nat.le_refl _) (by intro i hi;match i,hi with|0,_=>rfl|1,_=>rfl|2,_=>rfl|3,_=>rfl|4,_=>rfl|5,_=>rfl|6,_=>rfl)) (by simp) (by have:=HO.out.2.1;simp;omega) (by have:=HB4.out.size;simp at this ⊢;omega) ?_;intro v5 w5 ho _ hb hs;have HO5:=Lib.hid ho;have HB5:=Lib.hid (hb _ (HB4.out.alloc (by have:=HB4.out.size;simp at this ⊢;omega) _));clear ho hb hs))
  go_ret
  exact⟨_,rfl,by rw[HF.out];exact HO5.out.mono (Nat.le_succ _),(below_last (Below.refl _ _) _).trans (HB5.out.mono (Nat.le_succ _))⟩
theorem row8_key:Tryz.prog.keyTypeAt 4 27=true:=by kernel_rfl
theorem row8_form(f:Nat→Int):(Value.agg (rowL_u64 f).toArray).formed Tryz.prog 27=true:=by kernel_rfl
set_option maxRecDepth 10000
theorem row8_lits(f:Nat→Int)(h:∀i,i<8→(.int .u64 (f i):Lit).wf=true):Tryz.prog.keyLits 4 27 (Value.agg (rowL_u64 f).toArray).cells.toList=some [.int .u64 (f 0),.int .u64 (f 1),.int .u64 (f 2),.int .u64 (f 3),.int .u64 (f 4),.int .u64 (f 5),.int .u64 (f 6),.int .u64 (f 7)]:=by
 have h0:=h 0 (by decide)
 have h1:=h 1 (by decide)
 have h2:=h 2 (by decide)
 have h3:=h 3 (by decide)
 have h4:=h 4 (by decide)
 have h5:=h 5 (by decide)
 have h6:=h 6 (by decide)
 have h7:=h 7 (by decide)
 simp[rowL_u64,Program.keyLits,Value.cells,List.range,List.range.loop,Tryz.underlying27,Tryz.underlying26,cell_u8,cell_a8,h0,h1,h2,h3,h4,h5,h6,h7]
set_option maxRecDepth 100000
theorem row8_same(f:Nat→Int)(h:∀i,i<8→(.int .u64 (f i):Lit).wf=true)(w:World):((Op.equalIn 10000 27 (.agg (rowL_u64 f).toArray) (.agg (rowL_u64 f).toArray)).run Tryz.prog w)=.ok true w:=by
 obtain⟨r,hr,hi⟩:=eq_deep row8_key (row8_form f) (row8_form f) (row8_lits f h) (row8_lits f h) w
 have:r=true:=hi.2 rfl
 subst this
 exact hr
theorem row8_guard:Tryz.prog.eqGuardType Tryz.prog.depth 27=false:=by kernel_rfl
theorem wpList_eql_row8{ops:Array Oper}{rest:List Oper}{op:Oper}{a:Act}{w:World}{Q:Exit→Act→World→Prop}(hgd:op.guard=none)(x y:Operand)(ho:op.op=.binOp .eql 27 x y 27)(f:Nat→Int)(hf:∀i,i<8→(.int .u64 (f i):Lit).wf=true)(hx:a.eval x=.agg (rowL_u64 f).toArray)(hy:a.eval y=.agg (rowL_u64 f).toArray)
  (hK:wpList Tryz.prog ops Q rest (a.put op.dst (.bool true)) w):wpList Tryz.prog ops Q (op :: rest) a w:=
 wpList_plain hgd fun _ hh=>by
  have hg:(eqGuard .eql 27 x y (.agg (rowL_u64 f).toArray) (.agg (rowL_u64 f).toArray)).run Tryz.prog w=.ok () w:=run_eqGuard_agg w .eql 27 x y _ _ row8_guard
  have he:(binOp .eql 27 (.agg (rowL_u64 f).toArray) (.agg (rowL_u64 f).toArray)).run Tryz.prog w=.ok (.bool true) w:=by
   rw[run_eql_struct,row8_same f hf w]
   rfl
  unfold Oper.wp execOp
  rw[ho]
  simp only[Sem.run_bind,hx,hy,hg,Result.andThen_ok,he,Sem.run_pure]
  exact hh _ _ hK
theorem sta_xs{u:World}{B:Nat}{s:Sta}(h:u.rangeAt B 0 (staL s)):u.rangeAt B 15 (rowL_u64 s.x):=fun i v hi=>by
 have hl:=(List.getElem?_eq_some_iff.1 hi).1
 have hl:i<8:=hl
 have h2:=h (15+i) (.int .u64 (s.x i)) (sta_x s i hl)
 rw[Nat.zero_add]at h2
 rw[h2]
 rcases(show i=0∨i=1∨i=2∨i=3∨i=4∨i=5∨i=6∨i=7 by omega)with rfl|rfl|rfl|rfl|rfl|rfl|rfl|rfl<;>exact hi
theorem info_r4c:(Tryz.prog.info? 23).map (·.size)=some 8:=by kernel_rfl
theorem info_r8c:(Tryz.prog.info? 27).map (·.size)=some 8:=by kernel_rfl
set_option maxHeartbeats 8000000
theorem alufails_walk(HDO:DoC 17)(HIS:IsC 15)(HON:OneC 10)(r:Nat→Int)(f k rm d n:Int)(hr:∀i,i<8→0≤r i∧r i<4294967296)(f0:0≤f)(f1:f<256)(k0:0≤k)(k1:k<256)(m0:0≤rm)(m1:rm<256)(d0:0≤d)(d1:d<4294967296)(n0:0≤n)(n1:n<4294967296)(w:World):
  Calls Tryz.prog 6 #[.agg (rowL_u32 r).toArray,.int .u8 f,.int .u8 k,.int .u8 rm,.int .u32 d,.int .u32 n] w fun e w'=>e=.returned (.bool true)∧Below w.heap.size w w':=by
 have HK:=Lib.hid (known15_any HDO HIS HON)
 have HBY:=Lib.hid (fun u=>bytes_any k rm d u k0 k1 d0 d1)
 have HSS:=(fun u=>seatstate_any r (fun _=>0) hr (fun _ _=>⟨Int.le_refl _,by show(0:Int)<18446744073709551616;decide⟩) f 0 f0 f1 (by decide) (by decide) u)
 rw[show(rowL_u64 fun _=>0).toArray=#[.int .u64 0,.int .u64 0,.int .u64 0,.int .u64 0,.int .u64 0,.int .u64 0,.int .u64 0,.int .u64 0]from rfl]at HSS
 have HSS:=Lib.hid HSS
 have HBX:=Lib.hid (fun u=>boxes15_any (.slice none 0 0) 0 (fun _=>0) n n0 n1 (by decide) (fun _=>⟨by decide,by decide⟩) u (slc_nil8 _))
 have lok:=bytesF_ok k rm d m0 m1 d0 d1
 obtain⟨l13,l15⟩:=bytesF_len k rm d
 generalize bytesF k rm d=Y at HBY lok l13 l15
 have HON1:=Lib.hid (fun v u hu=>HON v Y.length (lst Y) (lst_ok lok) (by omega) u hu)
 have HOK:=Lib.hid (lst_ok lok)
 obtain⟨y,hy⟩:∃y,oneF Y.length (lst Y)=y:=⟨_,rfl⟩
 obtain⟨I,E⟩:=y
 rw[hy]at HON1
 have HY:=Lib.hid hy
 clear hr f0 f1 k0 k1 m0 m1 d0 d1 n0 n1 lok l13 l15 hy
 go_enter Tryz.func6,Tryz.ntmps6
 go_wp2_with fail
 ((with_reducible refine(HK.out _).mono ?_);rintro e w1 ⟨rfl,b1⟩)
 have h0:(w.alloc (.cells (rowL_u32 r).toArray 23)).heap[w.heap.size]?=some (.cells (rowL_u32 r).toArray 23 (0,0)):=by show(w.heap.push _)[w.heap.size]?=_;simp
 have HR1:=Lib.hid ((b1.block _ (Array.getElem?_eq_some_iff.1 h0).1).trans h0)
 have HB1:=Lib.hid (below_step (below_last (Below.refl _ _) _) b1)
 clear b1 h0
 go_wp2_with fail
 ((with_reducible refine(HBY.out _).mono ?_);rintro e w2 ⟨v2,rfl,O2,b2⟩)
 have S2:=O2.slc
 obtain⟨ad,cap,rfl⟩:=O2.len
 have HS2:=Lib.hid S2
 have HBI2:=Lib.hid b2
 clear S2 O2 b2
 go_wp2_with fail
 ((with_reducible refine(HON1.out _ _ HS2.out).mono ?_);rintro e w3 ⟨rfl,b3⟩)
 have HBI3:=Lib.hid (below_step HBI2.out b3)
 clear b3
 unfold insR
 dsimp only
 rw[show insV I=.agg (insL I).toArray from rfl]
 have HTH:=Lib.hid (there_alloc_new w3 zeroA 34 18 (by decide))
 go_upto_region 4 with(refine store_row rfl 34 (.tmp 13) (.tmp 28) rfl w3.heap.size rfl (insL I) rfl _ Tryz.underlying34 rfl info_ins (ins_one _) HTH.out ?_;intro V hV hl;clear hl;have HV:=Lib.hid (stored_blk zeroA hV rfl);clear hV)
 have HBIV:=Lib.hid (below_step HBI3.out HV.out.1)
 have HBW:=Lib.hid (below_step HB1.out HBIV.out)
 clear HTH
 by_cases hE:E=0
 ·subst hE
  have c0:V.cell? ⟨w3.heap.size,0,none⟩=some (.int .i64 I.op):=(cell_block HV.out.2 0).1
  have HIA:=Lib.hid (fun u=>risalu_any I.op u)
  obtain⟨q,hq⟩:∃q,isAluB I.op=q:=⟨_,rfl⟩
  rw[hq]at HIA
  have HQ:=Lib.hid hq
  clear hq
  go_wp2_with fail
  ((with_reducible refine(HIA.out _).mono ?_);rintro e w4 ⟨rfl,rfl⟩)
  cases q with
  |false=>
   clear c0
   go_wp2_with fail
   go_returns
   exact⟨rfl,HBW.out⟩
  |true=>
   have hdi:DecI I:=⟨⟨_,_,HOK.out,HY.out⟩,HQ.out⟩
   have HDI:=Lib.hid hdi
   have HOP:=Lib.hid hdi.alu.opds
   have HRV:=Lib.hid (range_in13 ((HBIV.out.block _ (Array.getElem?_eq_some_iff.1 HR1.out).1).trans HR1.out) 0 (rowL_u32 r) rfl)
   clear c0 hdi
   go_wp2_with (refine wpList_load_mid rfl 23 (.tmp 6) rfl w.heap.size 0 rfl (rowL_u32 r) _ HRV.out Tryz.underlying23 rfl info_r4c ?_)
   ((with_reducible refine(HSS.out _).mono ?_);rintro e w5 ⟨s,rfl,hs,b5⟩)
   have HSOK:=Lib.hid hs
   have HI5:=Lib.hid ((b5.block _ (Array.getElem?_eq_some_iff.1 HV.out.2).1).trans HV.out.2)
   have HB5:=Lib.hid (below_step HBW.out b5)
   have HTH:=Lib.hid (there_alloc_new w5 staZA 29 23 (by decide))
   clear b5 hs
   go_upto_region 7 with(refine store_row rfl 29 (.tmp 15) (.tmp 41) rfl w5.heap.size rfl (staL s) rfl _ Tryz.underlying29 rfl info_sta (sta_one s) HTH.out ?_;intro V2 hV hl;clear hl;have HV2:=Lib.hid (stored_blk staZA hV rfl);clear hV)
   have HI6:=Lib.hid ((HV2.out.1.block _ (Array.getElem?_eq_some_iff.1 HI5.out).1).trans HI5.out)
   have HB6:=Lib.hid (below_step HB5.out HV2.out.1)
   clear HTH
   go_wp2_with fail
   ((with_reducible refine(HBX.out _).mono ?_);rintro e w6 ⟨b,F,pg,rb,R,rfl,ht⟩)
   obtain⟨g,hg⟩:∃g,boxG (fun _=>0) 0 n=g:=⟨_,rfl⟩
   rw[hg]at ht
   have HL:=Lib.hid (((Lab.start ht).old _ _ _ HI6.out).old _ _ _ HV2.out.2)
   clear ht hg
   go_wp2_with (first
    |(refine wpList_load_mid rfl 29 (.tmp 15) rfl w5.heap.size 0 rfl (staL s) _ (HL.out.at_ _ _ (by simp)) Tryz.underlying29 rfl info_sta ?_)
    |(refine wpList_load_mid rfl 34 (.tmp 13) rfl w3.heap.size 0 rfl (insL I) _ (HL.out.at_ _ _ (by simp)) Tryz.underlying34 rfl info_ins ?_))
   ((with_reducible refine(lab_do HDO HL.out HSOK.out HDI.out).mono ?_);rintro e w7 ⟨F7,pg7,rfl,hl7⟩)
   have HAO:=Lib.hid (alu_of g boxD s I)
   have HKP:=Lib.hid (alu_kept g boxD s I HOP.out.1.1 HOP.out.2.1)
   have HTO:=Lib.hid (alu_ok HSOK.out g boxD I)
   obtain⟨T,hT⟩:∃T,AluT g boxD s I=T:=⟨_,rfl⟩
   obtain⟨E,hE⟩:∃E,aluE g boxD s I=E:=⟨_,rfl⟩
   obtain⟨g',hg'⟩:∃g',aluG g boxD s I=g':=⟨_,rfl⟩
   rw[hT,hE,hg']at HAO
   rw[hT]at HKP HTO
   rw[hg']at hl7
   rw[hT,hE]
   have HL7:=Lib.hid hl7
   clear hl7 hT hE hg'
   have HTH:=Lib.hid (there_alloc_new w7 staZA 29 23 (by decide))
   go_upto_region 9 with(refine store_row rfl 29 (.tmp 18) (.tmp 52) rfl w7.heap.size rfl (staL T) rfl _ Tryz.underlying29 rfl info_sta (sta_one T) HTH.out ?_;intro V3 hV hl;clear hl;have HL8:=Lib.hid (HL7.out.put staZA 29 (staL T) rfl _ rfl V3 hV);clear hV)
   clear HTH HL7 HL
   have HBF:=Lib.hid (below_step HB6.out HL8.out.low)
   rcases HAO.out with hE|⟨hE,hg,hTs⟩
   ·subst hE
    have rS:=HL8.out.at_ w5.heap.size (staL s) (by simp)
    have rT:=HL8.out.at_ w7.heap.size (staL T) (by simp)
    have p8:V3.cell? ⟨w5.heap.size,8,none⟩=some (.int .u32 s.ip):=rS 8 (.int .u32 s.ip) rfl
    have q8:V3.cell? ⟨w7.heap.size,8,none⟩=some (.int .u32 s.ip):=by have h:=rT 8 (.int .u32 T.ip) rfl;rwa[HKP.out.2]at h
    have HXS:=Lib.hid (show V3.rangeAt w5.heap.size 15 (rowL_u64 s.x)from sta_xs rS)
    have HXT:=Lib.hid (show V3.rangeAt w7.heap.size 15 (rowL_u64 s.x)by have h:=sta_xs rT;rwa[HKP.out.1]at h)
    have HXW:=Lib.hid (fun i (hi:i<8)=>(show(.int .u64 (s.x i):Lit).wf=true from WalkArith.wf_u64 (by have:=HSOK.out.x i hi;omega)))
    clear rS rT
    go_wp2_with (first
     |(refine wpList_met (by rfl) ?_;refine wpList_load_mid rfl 27 (.tmp 62) rfl w7.heap.size 15 rfl (rowL_u64 s.x) _ HXT.out Tryz.underlying27 rfl info_r8c ?_)
     |(refine wpList_met (by rfl) ?_;refine wpList_load_mid rfl 27 (.tmp 64) rfl w5.heap.size 15 rfl (rowL_u64 s.x) _ HXS.out Tryz.underlying27 rfl info_r8c ?_)
     |(refine wpList_met (by rfl) ?_;refine wpList_eql_row8 rfl (.tmp 63) (.tmp 65) rfl s.x HXW.out rfl rfl ?_))
    go_returns
    exact⟨rfl,HBF.out⟩
   ·subst hg hTs
    have HSW:=Lib.hid (ok_wf HSOK.out)
    have HE:=Lib.hid hE
    have hE0:(E==0)=false:=by rcases hE with rfl|rfl<;>rfl
    clear hE
    go_wp2_with (first
     |(refine wpList_load_mid rfl 29 (.tmp 18) rfl w7.heap.size 0 rfl (staL T) _ (HL8.out.at_ _ _ (by simp)) Tryz.underlying29 rfl info_sta ?_)
     |(refine wpList_load_mid rfl 29 (.tmp 15) rfl w5.heap.size 0 rfl (staL T) _ (HL8.out.at_ _ _ (by simp)) Tryz.underlying29 rfl info_sta ?_)
     |(refine wpList_eql_sta rfl (.tmp 68) (.tmp 69) rfl T HSW.out rfl rfl ?_))
    ((with_reducible refine(alike15_any HL8.out.two).mono ?_);rintro e w9 ⟨rfl,t9⟩)
    have HB9:=Lib.hid (below_step HB6.out t9.low)
    clear t9
    rcases HE.out with rfl|rfl
    ·go_wp2_with fail
     go_returns
     exact⟨rfl,HB9.out⟩
    ·go_wp2_with fail
     go_returns
     exact⟨rfl,HB9.out⟩
 ·have hne:(E != 0)=true:=by simpa using hE
  clear hE
  go_wp2_with fail
  go_returns
  exact⟨rfl,HBW.out⟩
end Go.Proofs.YtmdncgfheeijaaaGreat
