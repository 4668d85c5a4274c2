import Derived.ArgAppend
import Derived.Deep.MidRow
import Derived.Laws.IdiomStrings
import Derived.Laws.AppendOwn
import Derived.Test.YtlnahkkemjgjbaaGreatKNB
namespace Go.Proofs.YtlnahkkemjgjbaaGreat
open Go.ChangeShapes Go.WideShapes Go.ChangeAt Go.RowKit
theorem addr_add (b o j:Nat):(⟨b,o,none⟩:Addr).add j=⟨b,o+j,none⟩:=by unfold Addr.add;split <;> simp_all
theorem slc_new {k:IntKind} (w:World) (C:Array Value) (T:TypeId) (L cap:Nat) (bs:Nat→Int) (hL:L ≤ cap) (h:∀ i,i < L→C[i]?=some (.int k (bs i))):Slc k (w.alloc (.cells C T)) (.slice (some ⟨w.heap.size,0,none⟩) L cap) L bs :=
  .inr ⟨_,_,rfl,hL,fun i hi=>by rw [addr_add,Nat.zero_add,World.cell?_alloc_new,h i hi]⟩
theorem below_step {w a b:World} (h:Below w.heap.size w a) (k:Below a.heap.size a b):Below w.heap.size w b:=h.trans (k.mono h.size)
def lst (l:List Int):Nat→Int:=fun i=>l.getD i 0
def putOk (reg:Int) (o:Opd):Prop:=0 ≤ reg∧reg < 8∧(regOk o ∨ memOk o)
instance (reg:Int) (o:Opd):Decidable (putOk reg o):=by unfold putOk;infer_instance
theorem lst_ok {l:List Int} (h:∀ x ∈ l,0 ≤ x∧x < 256) (i:Nat):0 ≤ lst l i∧lst l i < 256:=by
  unfold lst
  by_cases hi:i < l.length
  · rw [List.getD_eq_getElem?_getD,List.getElem?_eq_getElem hi];exact h _ (List.getElem_mem hi)
  · rw [List.getD_eq_getElem?_getD,List.getElem?_eq_none (by omega)];exact ⟨Int.le_refl _,by decide⟩
theorem rmV_some {L:Nat} {bs:Nat→Int} {o:Opd} {r:Int} {n:Nat} (h:rmF L bs=some (o,r,n)):rmV L bs=.tuple #[.agg #[.int .i64 o.kind,.int .i64 o.reg,.int .i64 o.base,.int .i64 o.index,.int .i64 o.scale,.int .u32 o.disp],.int .i64 r,.int .i64 n,.int .i64 0]:=by unfold rmV;rw [h]
theorem rmV_none {L:Nat} {bs:Nat→Int} (h:rmF L bs=none):rmV L bs=.tuple #[.agg #[.int .i64 0,.int .i64 0,.int .i64 0,.int .i64 0,.int .i64 0,.int .u32 0],.int .i64 0,.int .i64 0,.int .i64 21]:=by unfold rmV;rw [h]
theorem six_kept {w w2:World} {a b c d e f:Value} {T:TypeId} (h:Below (w.alloc (.cells #[a,b,c,d,e,f] T)).heap.size (w.alloc (.cells #[a,b,c,d,e,f] T)) w2) :
    (w2.cell? ⟨w.heap.size,0,none⟩=some a∧w2.cell? ⟨w.heap.size,1,none⟩=some b∧w2.cell? ⟨w.heap.size,2,none⟩=some c∧w2.cell? ⟨w.heap.size,3,none⟩=some d∧w2.cell? ⟨w.heap.size,4,none⟩=some e∧w2.cell? ⟨w.heap.size,5,none⟩=some f)∧w.heap.size < w2.heap.size:=by
  refine ⟨⟨?_,?_,?_,?_,?_,?_⟩,bsize h⟩
  all_goals rw [h.cell (by simp),World.cell?_alloc_new];rfl
theorem addM_ok (o:Opd):0 ≤ addM o∧addM o ≤ 2:=by unfold addM;split <;> (try split) <;> (try split) <;> omega
theorem lst_append_lo (l m:List Int) (i:Nat) (h:i < l.length):lst (l ++ m) i=lst l i:=by
  unfold lst
  simp [List.getD_eq_getElem?_getD,List.getElem?_append_left h]
theorem lst_append_hi (l m:List Int) (i:Nat):lst (l ++ m) (l.length+i)=lst m i:=by
  unfold lst
  rw [List.getD_eq_getElem?_getD,List.getD_eq_getElem?_getD,List.getElem?_append_right (by omega),Nat.add_sub_cancel_left]
theorem info_u8':(Tryz.prog.info? 5).map (fun i=>(i.zero,i.size,i.bytes))=some (some (.int .u8 0),1,1):=by kernel_rfl
theorem lst_map {k:IntKind} (l:List Int) (j:Nat) (h:j < l.length):(l.map (Value.int k))[j]?=some (.int k (lst l j)):=by
  unfold lst
  simp [List.getD_eq_getElem?_getD,List.getElem?_eq_getElem h]
theorem slc_own {k:IntKind} {w:World} {base:Nat} {T:TypeId} {v:Value} {l:List Int} (h:w.ownsRow base T 1 v l.length (l.map (.int k))):Slc k w v l.length (lst l):=by
  obtain ⟨_,hr⟩:=id h
  rcases hr with ⟨rfl,h0⟩ | ⟨g,cap,cur,rfl,_,_,hcap,_⟩
  · exact .inl ⟨rfl,h0⟩
  · exact .inr ⟨_,_,rfl,hcap,fun i hi=>h.cells (g:=g) rfl i _ (lst_map l i hi)⟩
theorem below_grown {w w':World} (h:w.grownBy w' none):Below w.heap.size w w':=⟨h.os,h.tape,h.output,h.size,fun k hk=>h.block k hk (by simp)⟩
theorem int_one (k:IntKind) (l:List Int):∀ u ∈ l.map (Value.int k),u.oneCell'=true:=by
  intro u hu
  simp only [List.mem_map] at hu
  obtain ⟨x,_,rfl⟩:=hu
  simp [Value.oneCell']
set_option maxRecDepth 100000
theorem append_bytes {w:World} {ops:Array Oper} {rest:List Oper} {o:Oper} {a:Act} {Q:Exit→Act→World→Prop}
    (hg:o.guard=none) (s x:Operand) (hop:o.op=Op.call { callee:=Callee.builtin Builtin.append,args:=#[s,x],argTypes:=#[30,30] })
    (v1 v2:Value) (l1 l2:List Int) (hs:a.eval s=v1) (hx:a.eval x=v2) (ad:Option Addr) (he:v1=.slice ad l1.length l1.length) (h1:Slc .u8 w v1 l1.length (lst l1)) (h2:Slc .u8 w v2 l2.length (lst l2)) (h0:0 < l2.length) (hb:l1.length+l2.length ≤ 1000000)
    (hK:∀ v' w',Slc .u8 w' v' (l1.length+l2.length) (lst (l1 ++ l2))→Below w.heap.size w w'→wpList Tryz.prog ops Q rest (a.put o.dst v') w') :
    wpList Tryz.prog ops Q (o :: rest) a w:=by
  obtain ⟨i0,hi,hz0,hz1,hz2⟩:=info_parts info_u8'
  rcases h2 with ⟨_,h⟩ | ⟨b,c,rfl,hc,hcell⟩
  · omega
  refine wpList_append_grows w hg s x _ hop 5 i0 (.int .u8 0) 1 1 Tryz.underlying30 hi hz0 hz1 hz2 rfl (by decide) ad l1.length l1.length (l1.map (.int .u8)) (hs.trans he) ?_ (by simp) ?_ b l2.length c (l2.map (.int .u8)) hx (by simp) ?_ (int_one _ _) (by omega) (by unfold maxLen;omega) (by omega) ?_
  · intro hn
    rcases h1 with ⟨rfl,h⟩ | ⟨b1,c1,rfl,_,_⟩
    · rw [h];exact ⟨rfl,rfl⟩
    · injection he with he _ _;rw [hn] at he;cases he
  · intro b1 hb1 j u hj
    have hjl:j < l1.length:=by
      have:=(List.getElem?_eq_some_iff.1 hj).1
      simpa using this
    rw [lst_map l1 j hjl] at hj
    rcases h1 with ⟨rfl,h⟩ | ⟨b2,c2,rfl,_,hc1⟩
    · omega
    · injection he with he _ _
      rw [hb1] at he
      injection he with he
      rw [← he,hc1 j hjl]
      exact hj
  · intro j u hj
    have hjl:j < l2.length:=by
      have:=(List.getElem?_eq_some_iff.1 hj).1
      simpa using this
    rw [lst_map l2 j hjl] at hj
    rw [hcell j hjl]
    exact hj
  · intro v' w' ho hgr
    refine hK v' w' ?_ (below_grown hgr)
    rw [← List.map_append,← List.length_append] at ho
    have:=slc_own ho
    rwa [List.length_append] at this
set_option maxRecDepth 512
theorem or_add8 (k:Nat) (a b:Int) (a0:0 ≤ a) (a1:a < ((2 ^ k:Nat):Int)) (b0:0 ≤ b) (h:a+b * ((2 ^ k:Nat):Int) < 256):bits .or .u8 (b * ((2 ^ k:Nat):Int)) a=a+b * ((2 ^ k:Nat):Int):=by
  obtain ⟨x,rfl⟩:∃ x:Nat,a=(x:Int):=⟨a.toNat,by omega⟩
  obtain ⟨y,rfl⟩:∃ y:Nat,b=(y:Int):=⟨b.toNat,by omega⟩
  have e:(y:Int) * ((2 ^ k:Nat):Int)=((y * 2 ^ k:Nat):Int):=by push_cast;rfl
  rw [e] at h ⊢
  have hx:x < 2 ^ k:=by omega
  rw [u8_or_nat (y * 2 ^ k) x (by omega) (by omega)]
  have:=Nat.shiftLeft_add_eq_or_of_lt hx y
  rw [Nat.shiftLeft_eq] at this
  rw [← this]
  omega
theorem cell_block {u:World} {B:Nat} {C:Array Value} {T:TypeId} (h:u.heap[B]?=some (.cells C T (0,0))) (j:Nat):u.cell? ⟨B,j,none⟩=C[j]?∧u.frozen? ⟨B,j,none⟩=false:=by
  unfold World.cell? World.frozen?
  simp only
  rw [h]
  simp
theorem range_block {u:World} {B:Nat} {C:Array Value} {T:TypeId} (h:u.heap[B]?=some (.cells C T (0,0))):u.rangeAt B 0 C.toList:=fun j v hv=>by
  rw [Nat.zero_add,(cell_block h j).1]
  simpa using hv
theorem there_block {u:World} {B:Nat} {C:Array Value} {T:TypeId} (h:u.heap[B]?=some (.cells C T (0,0))) (o n:Nat) (hn:o+n ≤ C.size):u.there B o n:=fun j hj=>by
  rw [(cell_block h (o+j)).1,(cell_block h (o+j)).2,Array.getElem?_eq_getElem (by omega)]
  exact ⟨rfl,rfl⟩
theorem below_setCells {n:Nat} {a:World} {B:Nat} (hB:n ≤ B):∀ (vs:List Value) (o:Nat) (u:World),Below n a u→Below n a (u.setCells B o vs)
  | [],_,_,h=>h
  | v :: vs,o,u,h=>below_setCells hB vs (o+1) _ (h.setCell (by exact hB) v)
theorem load_range {P:Program} {u:World} {B o:Nat} {cs:List Value} (T:TypeId) (d:TypeDesc) (hu:P.underlying T=some d) (hd:d.isRow=true) (hi:(P.info? T).map (·.size)=some cs.length) (h:u.rangeAt B o cs):(loadVar T ⟨B,o,none⟩).run P u=.ok (.agg cs.toArray) u :=
  run_loadVar_mid u B o T cs d h hu hd hi
def setL (C:Array Value):Nat→List Value→Array Value
  | _,[]=>C
  | o,v :: vs=>setL (C.setIfInBounds o v) (o+1) vs
theorem block_setCell {u:World} {B:Nat} {C:Array Value} {T:TypeId} (h:u.heap[B]?=some (.cells C T (0,0))) (o:Nat) (v:Value):(u.setCell ⟨B,o,none⟩ v).heap[B]?=some (.cells (C.setIfInBounds o v) T (0,0)):=by
  unfold World.setCell
  simp only [Array.getElem?_modify]
  rw [h]
  simp
theorem block_setCells {B:Nat} {T:TypeId}:∀ (vs:List Value) (o:Nat) (u:World) (C:Array Value),u.heap[B]?=some (.cells C T (0,0))→(u.setCells B o vs).heap[B]?=some (.cells (setL C o vs) T (0,0))
  | [],_,_,_,h=>h
  | v :: vs,o,_,_,h=>block_setCells vs (o+1) _ _ (block_setCell h o v)
theorem setL_3 (v0 v1 v2 v3 v4 v5 v6 v7 v8 v9 v10 v11 v12 v13 v14 v15 v16 v17 a b c d e f:Value):setL #[v0,v1,v2,v3,v4,v5,v6,v7,v8,v9,v10,v11,v12,v13,v14,v15,v16,v17] 3 [a,b,c,d,e,f]=#[v0,v1,v2,a,b,c,d,e,f,v9,v10,v11,v12,v13,v14,v15,v16,v17]:=rfl
theorem setL_9 (v0 v1 v2 v3 v4 v5 v6 v7 v8 v9 v10 v11 v12 v13 v14 v15 v16 v17 a b c d e f:Value):setL #[v0,v1,v2,v3,v4,v5,v6,v7,v8,v9,v10,v11,v12,v13,v14,v15,v16,v17] 9 [a,b,c,d,e,f]=#[v0,v1,v2,v3,v4,v5,v6,v7,v8,a,b,c,d,e,f,v15,v16,v17]:=rfl
theorem other_setCell {u:World} {B k:Nat} (hk:k ≠ B) (o:Nat) (v:Value):(u.setCell ⟨B,o,none⟩ v).heap[k]?=u.heap[k]?:=by
  unfold World.setCell
  simp only [Array.getElem?_modify]
  exact if_neg (fun e=>hk e.symm)
theorem other_setCells {B k:Nat} (hk:k ≠ B):∀ (vs:List Value) (o:Nat) (u:World),(u.setCells B o vs).heap[k]?=u.heap[k]?
  | [],_,_=>rfl
  | v :: vs,o,_=>(other_setCells hk vs (o+1) _).trans (other_setCell hk o v)
theorem results_cell_tmp {P:Program} {fn:Func} {a b:Nat} {T:TypeId} {tmps:Array Value} {p:Addr} {c v:Value} {u:World} (hr:fn.results=#[.cell a T,.tmp b]) (ha:tmps.getD a undef=.pointer (some p)) (hb:tmps.getD b undef=v) (hl:(loadVar T p).run P u=.ok c u):(results fn tmps).run P u=.ok (.tuple #[c,v]) u:=by
  have h:results fn tmps=(do
      let x ← (do loadVar T (← asAddr (tmps.getD a undef)))
      let y ← pure (tmps.getD b undef)
      pure (.tuple #[x,y])):=by
    unfold results
    rw [hr]
    simp
  rw [h,ha,hb]
  simp only [asAddr,Sem.run_bind,Sem.run_pure,Result.andThen,hl]
theorem store_row {P:Program} {ops:Array Oper} {rest:List Oper} {op:Oper} {a:Act} {w:World} {Q:Exit→Act→World→Prop} (hgd:op.guard=none) (T:TypeId) (x y:Operand) (ho:op.op=.store T x y)
    (R:Nat) (hx:a.eval x=.pointer (some ⟨R,0,none⟩)) (C:List Value) (hy:a.eval y=.agg C.toArray) (d:TypeDesc) (hu:P.underlying T=some d) (hd:d.isRow=true) (hi:(P.info? T).map (·.size)=some C.length) (h1:C.toArray.all (·.oneCell')=true) (ht:w.there R 0 C.length)
    (hK:∀ Y,Y=w.setCells R 0 C→(loadVar T ⟨R,0,none⟩).run P Y=.ok (.agg C.toArray) Y→wpList P ops Q rest (a.put op.dst undef) Y):wpList P ops Q (op :: rest) a w:=by
  refine wpList_store_mid hgd T x y ho R 0 C.toArray hx hy (by simpa using ht) (by simpa using hi) h1 ?_
  have hr:=World.rangeAt_setCells_same w R 0 C ht
  have hl:=load_range (P:=P) T d hu hd hi hr
  exact hK _ rfl hl
theorem results_cell {P:Program} {fn:Func} {a:Nat} {T:TypeId} {tmps:Array Value} {p:Addr} {c:Value} {u:World} (hr:fn.results=#[.cell a T]) (ha:tmps.getD a undef=.pointer (some p)) (hl:(loadVar T p).run P u=.ok c u):(results fn tmps).run P u=.ok c u:=by
  have h:results fn tmps=(do loadVar T (← asAddr (tmps.getD a undef))):=by
    unfold results
    rw [hr]
    simp
  rw [h,ha]
  simp only [asAddr,Sem.run_bind,Sem.run_pure,Result.andThen,hl]
theorem info_opd1:(Tryz.prog.info? 24).map (·.size)=some 6:=by kernel_rfl
def opL' (o:Opd):List Value:=[.int .i64 o.kind,.int .i64 o.reg,.int .i64 o.base,.int .i64 o.index,.int .i64 o.scale,.int .u32 o.disp]
theorem store_opd {ops:Array Oper} {rest:List Oper} {op:Oper} {a:Act} {w:World} {Q:Exit→Act→World→Prop} (hgd:op.guard=none) (x y:Operand) (ho:op.op=.store 24 x y)
    (R:Nat) (hx:a.eval x=.pointer (some ⟨R,0,none⟩)) (q:Opd) (hy:a.eval y=opV q) (ht:w.there R 0 6)
    (hK:∀ Y,Y=w.setCells R 0 (opL' q)→(loadVar 24 ⟨R,0,none⟩).run Tryz.prog Y=.ok (opV q) Y→wpList Tryz.prog ops Q rest (a.put op.dst undef) Y):wpList Tryz.prog ops Q (op :: rest) a w :=
  store_row hgd _ x y ho R hx (opL' q) hy _ Tryz.underlying24 rfl info_opd1 (by simp [opL',Value.oneCell']) ht hK
theorem there_alloc_new (w:World) (C:Array Value) (T:TypeId) (n:Nat) (hn:n ≤ C.size):(w.alloc (.cells C T)).there w.heap.size 0 n:=by
  have h:(w.alloc (.cells C T)).heap[w.heap.size]?=some (.cells C T (0,0)):=by
    show (w.heap.push _)[w.heap.size]?=_
    simp
  exact there_block h 0 n (by omega)
theorem there_but {F:Nat→Prop} {w w':World} {R o n:Nat} (h:But F w w') (hn:¬ F R) (hR:R < w.heap.size) (ht:w.there R o n):w'.there R o n:=fun j hj=>by
  have hb:=h.block R hR hn
  rw [World.cell?_of_block (a:=⟨R,o+j,none⟩) hb,World.frozen?_of_block (a:=⟨R,o+j,none⟩) hb]
  exact ht j hj
theorem there_alloc {w:World} {R n:Nat} (o:Obj) (hR:R < w.heap.size) (ht:w.there R 0 n):(w.alloc o).there R 0 n :=
  there_but (F:=fun _=>False) ((But.refl _ w).alloc o) (fun h=>h) hR ht
theorem But.cells {F:Nat→Prop} {w w':World} (h:But F w w') {R:Nat} (hR:R < w.heap.size→F R):∀ (vs:List Value) (o:Nat),But F w (w'.setCells R o vs):=by
  intro vs
  induction vs generalizing w' with
  | nil=>intro o;exact h
  | cons v vs ih=>intro o;exact ih (h.setCell (a:=⟨R,o,none⟩) hR v) (o+1)
theorem setCells_size (R:Nat):∀ (vs:List Value) (o:Nat) (w:World),(w.setCells R o vs).heap.size=w.heap.size
  | [],_,_=>rfl
  | v :: vs,o,w=>(setCells_size R vs (o+1) _).trans (by simp [World.setCell])
theorem load_opd {w:World} {R:Nat} (hR:R < w.heap.size) (ht:w.there R 0 6) (q:Opd) (o:Obj) :
    (loadVar 24 ⟨R,0,none⟩).run Tryz.prog ((w.setCells R 0 (opL' q)).alloc o).drew=.ok (opV q) ((w.setCells R 0 (opL' q)).alloc o).drew:=by
  have hr:=World.rangeAt_setCells_same w R 0 (opL' q) ht
  have hs:R < (w.setCells R 0 (opL' q)).heap.size:=by rw [setCells_size];exact hR
  generalize w.setCells R 0 (opL' q)=X at hr hs ⊢
  have hr':((X.alloc o).drew).rangeAt R 0 (opL' q):=fun j v hv=>(World.cell?_alloc_lt X o ⟨R,0+j,none⟩ hs).trans (hr j v hv)
  exact load_range (P:=Tryz.prog) (cs:=opL' q) 24 _ Tryz.underlying24 rfl info_opd1 hr'
def OwnB (w:World) (base:Nat) (v:Value) (l:List Int):Prop :=
  ∃ g cap,v=.slice (some ⟨g,0,none⟩) l.length cap∧base ≤ g∧g < w.heap.size∧l.length ≤ cap∧cap ≤ maxLen∧w.rangeAt g 0 (l.map (.int .u8))∧w.there g 0 cap
theorem OwnB.slc {w:World} {base:Nat} {v:Value} {l:List Int} (h:OwnB w base v l):Slc .u8 w v l.length (lst l):=by
  obtain ⟨g,cap,rfl,_,_,hc,_,hr,_⟩:=h
  refine .inr ⟨_,_,rfl,hc,fun i hi=>?_⟩
  rw [addr_add]
  exact hr i _ (lst_map l i hi)
theorem OwnB.below {w w':World} {base:Nat} {v:Value} {l:List Int} (h:OwnB w base v l) (hb:Below w.heap.size w w'):OwnB w' base v l:=by
  obtain ⟨g,cap,rfl,h1,h2,h3,h4,h5,h6⟩:=h
  refine ⟨g,cap,rfl,h1,Nat.lt_of_lt_of_le h2 hb.size,h3,h4,fun j v hj=>?_,there_but (F:=fun _=>False) (But.of_below hb) (fun h=>h) h2 h6⟩
  rw [hb.cell (p:=⟨g,0+j,none⟩) h2]
  exact h5 j v hj
theorem OwnB.mono {w:World} {base base':Nat} {v:Value} {l:List Int} (h:OwnB w base v l) (hb:base' ≤ base):OwnB w base' v l:=by
  obtain ⟨g,cap,h0,h1,h2⟩:=h
  exact ⟨g,cap,h0,Nat.le_trans hb h1,h2⟩
theorem OwnB.len {w:World} {base:Nat} {v:Value} {l:List Int} (h:OwnB w base v l):∃ a cap,v=.slice a l.length cap:=by
  obtain ⟨g,cap,rfl,_⟩:=h
  exact ⟨_,_,rfl⟩
theorem OwnB.made (w:World) (base:Nat) (hb:base ≤ w.heap.size) (C:Array Value) (T:TypeId) (fz:Nat × Nat) (l:List Int) (hC:C.size ≤ maxLen) (hl:l.length ≤ C.size) (hr:∀ i,i < l.length→C[i]?=some (.int .u8 (lst l i))) (hz:fz.2=0 ∨ C.size ≤ fz.1) (cap:Nat) (hcap:cap=C.size) :
    OwnB (w.alloc (.cells C T fz)) base (.slice (some ⟨w.heap.size,0,none⟩) l.length cap) l:=by
  subst hcap
  have hh:(w.alloc (.cells C T fz)).heap[w.heap.size]?=some (.cells C T fz):=by
    show (w.heap.push _)[w.heap.size]?=_
    simp
  have hc:∀ j,(w.alloc (.cells C T fz)).cell? ⟨w.heap.size,j,none⟩=C[j]?:=fun j=>by
    unfold World.cell?
    simp only
    rw [hh]
    simp
  refine ⟨_,_,rfl,hb,by simp,hl,hC,fun j v hj=>?_,fun j hj=>?_⟩
  · have hj':j < l.length:=by
      have:=(List.getElem?_eq_some_iff.1 hj).1
      simpa using this
    rw [lst_map l j hj'] at hj
    rw [Nat.zero_add,hc,hr j hj']
    exact hj
  · rw [Nat.zero_add,hc]
    refine ⟨by rw [Array.getElem?_eq_getElem hj];rfl,?_⟩
    obtain ⟨lo,hi⟩:=fz
    unfold World.frozen?
    simp only
    rw [hh]
    simp only [Bool.and_eq_false_iff,decide_eq_false_iff_not]
    simp only at hz
    omega
theorem append_ownB {w:World} {ops:Array Oper} {rest:List Oper} {o:Oper} {a:Act} {Q:Exit→Act→World→Prop}
    (hg:o.guard=none) (s x:Operand) (hop:o.op=Op.call { callee:=Callee.builtin Builtin.append,args:=#[s,x],argTypes:=#[30,30] })
    (base:Nat) (v1 v2:Value) (l1 l2:List Int) (hs:a.eval s=v1) (hx:a.eval x=v2) (h1:OwnB w base v1 l1) (h2:Slc .u8 w v2 l2.length (lst l2)) (h0:0 < l2.length) (hb:l1.length+l2.length ≤ 1000000) (hbase:base ≤ w.heap.size)
    (hK:∀ v' w',OwnB w' base v' (l1 ++ l2)→OwnB w' base v1 l1→(∀ W,Below base W w→Below base W w')→w.heap.size ≤ w'.heap.size→wpList Tryz.prog ops Q rest (a.put o.dst v') w') :
    wpList Tryz.prog ops Q (o :: rest) a w:=by
  obtain ⟨i0,hi,hz0,hz1,hz2⟩:=info_parts info_u8'
  rcases h2 with ⟨_,h⟩ | ⟨b,c,rfl,hc,hcell⟩
  · omega
  have hold:=h1
  obtain ⟨g,cap,rfl,g1,g2,g3,g4,g5,g6⟩:=h1
  have hnews:∀ j u,(l2.map (Value.int .u8))[j]?=some u→w.cell? (b.add j)=some u:=fun j u hj=>by
    have hjl:j < l2.length:=by
      have:=(List.getElem?_eq_some_iff.1 hj).1
      simpa using this
    rw [lst_map l2 j hjl] at hj
    rw [hcell j hjl]
    exact hj
  have holds:∀ j u,(l1.map (Value.int .u8))[j]?=some u→w.cell? ((⟨g,0,none⟩:Addr).add j)=some u:=fun j u hj=>by
    rw [addr_add]
    exact g5 j u hj
  have fin:∀ v' w',(Builtin.append_ #[30,30] o.type #[.slice (some ⟨g,0,none⟩) l1.length cap,.slice (some b) l2.length c]).run Tryz.prog w=.ok v' w'→wpList Tryz.prog ops Q rest (a.put o.dst v') w'→wpList Tryz.prog ops Q (o :: rest) a w:=fun v' w' hr hk =>
    wpList_plain hg fun _ hh=>by
      unfold Oper.wp execOp
      simp only [hop,resolve,invoke,builtin,Sem.run_bind,Sem.run_pure,Result.andThen_ok,List.map_toArray,List.map_cons,List.map_nil,hs,hx,hr]
      exact hh _ _ hk
  by_cases hroom:l1.length+l2.length ≤ cap
  · have hst:=run_storeCells_cells (P:=Tryz.prog) g l1.length (l2.map (Value.int .u8)) 0 w (fun j hj=>by
        have hj':j < l2.length:=by simpa using hj
        have:=(g6 (l1.length+j) (by omega)).1
        rw [Nat.zero_add] at this
        simpa [addr_add] using this) (fun j hj=>by
        have hj':j < l2.length:=by simpa using hj
        have:=(g6 (l1.length+j) (by omega)).2
        rw [Nat.zero_add] at this
        simpa [addr_add] using this) (int_one .u8 l2)
    simp only [Nat.add_zero] at hst
    have hf:=run_firstCells_some (P:=Tryz.prog) w i0.size l2.length b l2.length c (l2.map (Value.int .u8)) (by rw [hz1];simp) hnews
    refine fin (.slice (some ⟨g,0,none⟩) (l1.length+l2.length) cap) (w.setCells g l1.length (l2.map (Value.int .u8))) ?_ ?_
    · simp [Builtin.append_,run_underlying (Tryz.underlying30),sizeOf,typeInfo,hi,Builtin.lenOf,hroom,Addr.add_lit,hz1]
      rw [hz1] at hf
      simp [hf,hst]
    · refine hK _ _ ⟨g,cap,by rw [List.length_append],g1,by rw [setCells_size];exact g2,by rw [List.length_append];exact hroom,g4,?_,World.there_setCells g6 _ _ _⟩ ⟨g,cap,rfl,g1,by rw [setCells_size];exact g2,g3,g4,World.rangeAt_setCells_apart g5 g l1.length (l2.map (Value.int .u8)) (.inr (.inl (by simp))),World.there_setCells g6 _ _ _⟩ (fun W hW=>below_setCells g1 _ _ _ hW) (by rw [setCells_size];exact Nat.le_refl _)
      intro j v hj
      rw [List.map_append] at hj
      by_cases hjl:j < l1.length
      · rw [List.getElem?_append_left (by simpa using hjl)] at hj
        exact World.rangeAt_setCells_apart g5 g l1.length (l2.map (Value.int .u8)) (.inr (.inl (by simp))) j v hj
      · rw [List.getElem?_append_right (by simp;omega)] at hj
        have hsame:=World.rangeAt_setCells_same w g l1.length (l2.map (Value.int .u8)) (fun i hi=>by
          have hi':i < l2.length:=by simpa using hi
          have:=g6 (l1.length+i) (by omega)
          rw [Nat.zero_add] at this
          exact this) (j - l1.length) v (by simpa using hj)
        rw [show l1.length+(j - l1.length)=0+j by omega] at hsame
        exact hsame
  · have hr:=run_append_grow (P:=Tryz.prog) w 30 o.type 5 i0 (.int .u8 0) Tryz.underlying30 hi hz0 ⟨g,0,none⟩ l1.length cap (l1.map (Value.int .u8)) (by rw [hz1];simp) holds b l2.length c (l2.map (Value.int .u8)) (by rw [hz1];simp) hnews (by omega) (by omega) (growslice_fits (by omega) (by rw [hz2];omega))
    have hge:=grownCap_ge w (l1.length+l2.length) cap 5
    have hle:=grownCap_le_maxLen w (l1.length+l2.length) cap 5 (by unfold maxLen;omega)
    refine fin _ _ hr ?_
    refine hK _ _ ?_ (hold.below ((Below.refl _ w).drew.alloc (Nat.le_refl _) _)) (fun W hW=>(hW.drew).alloc (by exact hbase) _) (by simp)
    have hsz:((l1.map (Value.int .u8)).toArray ++ (l2.map (Value.int .u8)).toArray ++ Builtin.zeroCells (Value.int .u8 0).cells (grownCap w (l1.length+l2.length) cap 5 - (l1.length+l2.length))).size=grownCap w (l1.length+l2.length) cap 5:=by
      simp only [Array.size_append,List.size_toArray,List.length_map,size_zeroCells,Value.cells]
      simp
      omega
    have hm:=OwnB.made w.drew base hbase ((l1.map (Value.int .u8)).toArray ++ (l2.map (Value.int .u8)).toArray ++ Builtin.zeroCells (Value.int .u8 0).cells (grownCap w (l1.length+l2.length) cap 5 - (l1.length+l2.length))) 5 (0,0) (l1 ++ l2) (by rw [hsz];exact hle) (by rw [hsz,List.length_append];exact hge) (fun i hi=>by
      rw [List.length_append] at hi
      rw [Array.getElem?_append_left (by simpa using hi),← lst_map (k:=.u8) (l1 ++ l2) i (by rw [List.length_append];exact hi)]
      simp) (.inl rfl) _ hsz.symm
    rw [List.length_append] at hm
    exact hm
theorem append_ownN {w:World} {ops:Array Oper} {rest:List Oper} {o:Oper} {a:Act} {Q:Exit→Act→World→Prop}
    (hg:o.guard=none) (s x:Operand) (hop:o.op=Op.call { callee:=Callee.builtin Builtin.append,args:=#[s,x],argTypes:=#[30,30] })
    (base:Nat) (v2:Value) (l2:List Int) (hs:a.eval s=.slice none 0 0) (hx:a.eval x=v2) (h2:Slc .u8 w v2 l2.length (lst l2)) (h0:0 < l2.length) (hb:l2.length ≤ 1000000) (hbase:base ≤ w.heap.size)
    (hK:∀ v' w',OwnB w' base v' l2→(∀ W,Below base W w→Below base W w')→w.heap.size ≤ w'.heap.size→wpList Tryz.prog ops Q rest (a.put o.dst v') w') :
    wpList Tryz.prog ops Q (o :: rest) a w:=by
  obtain ⟨i0,hi,hz0,hz1,hz2⟩:=info_parts info_u8'
  rcases h2 with ⟨_,h⟩ | ⟨b,c,rfl,hc,hcell⟩
  · omega
  have hnews:∀ j u,(l2.map (Value.int .u8))[j]?=some u→w.cell? (b.add j)=some u:=fun j u hj=>by
    have hjl:j < l2.length:=by
      have:=(List.getElem?_eq_some_iff.1 hj).1
      simpa using this
    rw [lst_map l2 j hjl] at hj
    rw [hcell j hjl]
    exact hj
  refine wpList_append_own w hg s x _ hop base 5 i0 (.int .u8 0) 1 1 Tryz.underlying30 hi hz0 hz1 hz2 rfl (by decide) (.slice none 0 0) 0 [] hs (World.ownsRow_nil w base _ 1) b l2.length c (l2.map (.int .u8)) hx (by simp) hnews (int_one _ _) (by unfold maxLen;omega) (by omega) hbase ?_
  intro v' w' ho hgr hnil
  simp only [Nat.zero_add,List.nil_append] at ho hgr hnil
  refine hK v' w' ?_ (fun W hW=>hW.grown hgr hbase (fun k hk=>by cases hk)) hgr.size
  rcases ho.2 with ⟨rfl,h⟩ | ⟨g,cap,cur,rfl,e1,e2,e3,e4,e5,e6⟩
  · omega
  · refine ⟨g,cap,rfl,e1,(Array.getElem?_eq_some_iff.1 e2).1,e3,e4,fun j u hj=>?_,fun j hj=>?_⟩
    · have:=ho.cells (g:=g) rfl j u hj
      rw [addr_add] at this
      exact this
    · have hcl:∀ q,w'.cell? ⟨g,q,none⟩=cur[q]?:=fun q=>by
        unfold World.cell?
        simp only
        rw [e2]
        simp
      refine ⟨by rw [hcl,Array.getElem?_eq_getElem (by omega)];rfl,?_⟩
      unfold World.frozen?
      simp only
      rw [e2]
      simp
theorem append_own0 {w:World} {ops:Array Oper} {rest:List Oper} {o:Oper} {a:Act} {Q:Exit→Act→World→Prop}
    (hg:o.guard=none) (s x:Operand) (hop:o.op=Op.call { callee:=Callee.builtin Builtin.append,args:=#[s,x],argTypes:=#[30,30] })
    (base:Nat) (v1:Value) (l1:List Int) (hs:a.eval s=v1) (h1:OwnB w base v1 l1) (b:Option Addr) (c:Nat) (hx:a.eval x=.slice b 0 c)
    (hK:wpList Tryz.prog ops Q rest (a.put o.dst v1) w) :
    wpList Tryz.prog ops Q (o :: rest) a w:=by
  obtain ⟨i0,hi,hz0,hz1,hz2⟩:=info_parts info_u8'
  obtain ⟨g,cap,rfl,g1,g2,g3,g4,g5,g6⟩:=h1
  refine wpList_plain hg fun _ hh=>?_
  have hr:(Builtin.append_ #[30,30] o.type #[.slice (some ⟨g,0,none⟩) l1.length cap,.slice b 0 c]).run Tryz.prog w=.ok (.slice (some ⟨g,0,none⟩) l1.length cap) w:=by
    cases b with
    | none=>simp [Builtin.append_,run_underlying (Tryz.underlying30),sizeOf,typeInfo,hi,Builtin.lenOf,g3,Builtin.firstCells,loadCells,storeCells]
    | some b=>simp [Builtin.append_,run_underlying (Tryz.underlying30),sizeOf,typeInfo,hi,Builtin.lenOf,g3,Builtin.firstCells,loadCells,loadCellsFrom,storeCells]
  unfold Oper.wp execOp
  simp only [hop,resolve,invoke,builtin,Sem.run_bind,Sem.run_pure,Result.andThen_ok,List.map_toArray,List.map_cons,List.map_nil,hs,hx,hr]
  exact hh _ _ hK
theorem convert_ownB {w:World} {ops:Array Oper} {rest:List Oper} {o:Oper} {a:Act} {Q:Exit→Act→World→Prop}
    (hg:o.guard=none) (x:Operand) (hop:o.op=Op.convert 9 30 x) (base:Nat) (l:List Int) (hx:a.eval x=.string ⟨(l.map fun i=>UInt8.ofNat i.toNat).toArray⟩) (h8:∀ i ∈ l,0 ≤ i∧i < 256) (hl:l.length ≤ 1000000) (hbase:base ≤ w.heap.size)
    (hK:∀ v' w',OwnB w' base v' l→(∀ W,Below base W w→Below base W w')→w.heap.size ≤ w'.heap.size→wpList Tryz.prog ops Q rest (a.put o.dst v') w') :
    wpList Tryz.prog ops Q (o :: rest) a w :=
  wpList_plain hg fun _ hh=>by
    obtain ⟨S,hS⟩:∃ S:ByteArray,S=⟨(l.map fun i=>UInt8.ofNat i.toNat).toArray⟩:=⟨_,rfl⟩
    rw [← hS] at hx
    have hsl:S.size=l.length:=by rw [hS];show (l.map _).toArray.size=_;simp
    have hr:=run_bytes_of_string (P:=Tryz.prog) w 9 30 5 S Tryz.underlying9 Tryz.underlying30 Tryz.underlying5
    have hge:=grownCap_ge w S.size 0 5
    have hle:=grownCap_le_maxLen w S.size 0 5 (by rw [hsl];unfold maxLen;omega)
    have hsz:(bytesRow S (grownCap w S.size 0 5)).size=grownCap w S.size 0 5:=by
      unfold bytesRow
      simp only [Array.size_append,Array.size_map,Array.size_replicate]
      show S.size+_=_
      omega
    unfold Oper.wp execOp
    simp only [hop,hx,Sem.run_bind,hr,Result.andThen_ok,Sem.run_pure]
    refine hh _ _ (hK _ _ ?_ (fun W hW=>(hW.drew).alloc (by exact hbase) _) (by simp))
    have hm:=OwnB.made w.drew base hbase (bytesRow S (grownCap w S.size 0 5)) 5 ((bytesRow S (grownCap w S.size 0 5)).size,(bytesRow S (grownCap w S.size 0 5)).size+1) l (by rw [hsz];exact hle) (by rw [hsz,← hsl];exact hge) (fun i hi=>by
      have h8i:=h8 (l[i]) (List.getElem_mem hi)
      unfold bytesRow
      rw [Array.getElem?_append_left (by simp;show i < S.size;omega)]
      have e:lst l i=l[i]:=by unfold lst;simp [List.getD_eq_getElem?_getD,List.getElem?_eq_getElem hi]
      rw [e,hS]
      simp [List.getElem?_eq_getElem hi]
      omega) (.inr (Nat.le_refl _)) _ hsz.symm
    rw [← hsl] at hm
    exact hm
end Go.Proofs.YtlnahkkemjgjbaaGreat
