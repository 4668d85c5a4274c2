import Derived.KernelRfl
import Derived.Deep.RegionWith
import Derived.Deep.DeepCutAuto
import Derived.Deep.CutBlock
import Derived.Test.YtlnahkkemjgjbaaGreatKNL
import Derived.Test.YtlnahkkemjgjbaaGreatKNP11
import Derived.Test.YtlnahkkemjgjbaaGreatKNQ
namespace Go.Proofs.YtlnahkkemjgjbaaGreat
section
structure Tst where
  k:Nat
  rm:Option Opd
  tl:List Int
def opT (x:Ins) (k:Nat):Opd:=if k=0 then x.a else x.b
def stepT (f:Frm) (reg:Int) (x:Ins) (s:Tst) (c:UInt8):Option Tst :=
  if c=76 ∨ c=66 then some ⟨s.k,s.rm,s.tl ++ lowF x.c (needF f.size c)⟩
  else if isG c=true∧(opT x s.k).reg ≠ reg then none
  else some ⟨s.k+1,if isEE c=true then some (plainO (opT x s.k)) else s.rm,s.tl ++ lowF (opT x s.k).disp (needF f.size c)⟩
def runT (f:Frm) (reg:Int) (x:Ins):List UInt8→Tst→Option Tst
  | [],s=>some s
  | c :: l,s=>(stepT f reg x s c).bind (runT f reg x l)
theorem runT_snoc (f:Frm) (reg:Int) (x:Ins) (c:UInt8):∀ (l:List UInt8) (s:Tst),runT f reg x (l ++ [c]) s=(runT f reg x l s).bind fun t=>stepT f reg x t c
  | [],s=>by show (stepT f reg x s c).bind (fun t=>some t)=stepT f reg x s c;cases stepT f reg x s c <;> rfl
  | d :: l,s=>by
    show (stepT f reg x s d).bind _=((stepT f reg x s d).bind _).bind _
    cases stepT f reg x s d with
    | none=>rfl
    | some t=>exact runT_snoc f reg x c l t
def frmD (h reg:Int):Option (Frm × Bool) :=
  if h < 256 then (if (firstF h reg false).2.1 then some ((firstF h reg false).1,false) else none)
  else if 0xf300 ≤ h∧h < 0xf400 then (if (firstF (h - 0xf300) reg false).2.1 then some ((firstF (h - 0xf300) reg false).1,true) else none)
  else if 0x0f00 ≤ h∧h < 0x1000 then ofS (secondF 0 (h - 0x0f00))
  else if 0x660f00 ≤ h∧h < 0x661000 then ofS (secondF 102 (h - 0x660f00))
  else if 0xf20f00 ≤ h∧h < 0xf21000 then ofS (secondF 242 (h - 0xf20f00))
  else none
theorem frmD_of {h reg:Int} {f:Frm} {rep:Bool} (hf:frmH h reg false=some (f,rep)):frmD h reg=some (f,rep):=by
  unfold frmH at hf
  unfold frmD
  by_cases h1:h < 256
  · rw [if_pos h1] at hf ⊢
    unfold oneH at hf
    split at hf
    · cases hf
    · split at hf
      · cases hf
      · exact hf
  · rw [if_neg h1] at hf ⊢
    unfold twoH at hf
    by_cases h2:0x0f00 ≤ h∧h < 0x1000
    · rw [if_pos h2] at hf
      rw [if_neg (by omega),if_pos h2]
      exact hf
    rw [if_neg h2] at hf
    by_cases h3:0xf300 ≤ h∧h < 0xf400
    · rw [if_pos h3] at hf
      rw [if_pos h3]
      split at hf
      · rename_i hs
        rw [← hf]
        rcases hs with e | e | e | e <;> rw [e] <;> kernel_rfl
      · cases hf
    rw [if_neg h3] at hf ⊢
    rw [if_neg h2]
    exact hf
def frmT (h reg:Int) (x:Ins):Option Frm :=
  match frmD h reg with
  | none=>none
  | some (f,rep)=>if f.op=x.op∧f.size=x.size∧f.cond=x.cond∧(rep=true→x.rep=true) then some f else none
def triedF (h reg:Int) (x:Ins):Option (List Int) :=
  (frmT h reg x).bind fun f=>(runT f reg x f.how ⟨0,none,[]⟩).bind fun s=>match s.rm with
    | none=>some (spelledF h ++ s.tl)
    | some rm=>if putOk reg rm then some ((spelledF h ++ putF reg rm) ++ s.tl) else none
theorem low_0 (v:Int):lowF v 0=[]:=rfl
theorem run_how (f:Frm) (reg:Int) (x:Ins) (hw:f.how ∈ hows) (hg:∀ s,posL f.how isG=some s→(selO x s).reg=reg) :
    ∃ k,runT f reg x f.how ⟨0,none,[]⟩=some ⟨k,(posL f.how isEE).map fun s=>plainO (selO x s),tailF x (tlP f.size 0 f.how)⟩:=by
  obtain ⟨op,cond,size,how,c⟩:=f
  have h:how ∈ hows:=hw
  have hg:∀ s,posL how isG=some s→(selO x s).reg=reg:=hg
  unfold hows at h
  simp only [List.mem_cons,List.not_mem_nil,or_false] at h
  rcases h with rfl | rfl | rfl | rfl | rfl | rfl | rfl | rfl | rfl | rfl | rfl | rfl | rfl | rfl | rfl | rfl | rfl | rfl | rfl | rfl | rfl | rfl | rfl | rfl | rfl
  all_goals
    have h0:=hg false
    have h1:=hg true
    simp [posL,isG,selO] at h0 h1
    by_cases h4:size=4
    · simp [runT,stepT,posL,isG,isEE,selO,opT,tlP,needF,tailF,selT,low_0,h0,h1,h4]
    · simp [runT,stepT,posL,isG,isEE,selO,opT,tlP,needF,tailF,selT,low_0,h0,h1,h4]
theorem tried_some {L:Nat} {bs:Nat→Int} {x:Ins} (hb:∀ i,0 ≤ bs i∧bs i < 256) (h:oneF L bs=(x,0)) :
    ∃ hN reg f rep E,0 ≤ hN∧0 ≤ reg∧reg < 8∧frmH hN reg false=some (f,rep)∧triedF hN reg x=some E∧oneF E.length (lst E)=({ x with len:=E.length },0):=by
  obtain ⟨hN,f,rep,reg,m3,rm,hS⟩:=src_of hb h
  obtain ⟨w1,w2,_,w4,w5⟩:=form_good hS.h0 hS.regs.1 hS.regs.2 hS.head
  cases hh:hasF f.how with
  | false =>
    have hp:posL f.how isEE=none:=by rw [hh] at w2;cases hq:posL f.how isEE with
      | none=>rfl
      | some s=>rw [hq] at w2;cases w2
    have hf0:=w5 hh 0 false (by decide) (by decide)
    have hf1:=w5 hh 0 m3 (by decide) (by decide)
    obtain ⟨k,hk⟩:=run_how f 0 x w1 (fun s hs=>by rw [g_has _ w1 hh] at hs;cases hs)
    refine ⟨hN,0,f,rep,spelledF hN ++ tailF x (tlP f.size 0 f.how),hS.h0,by decide,by decide,hf0,?_,?_⟩
    · unfold triedF frmT
      rw [frmD_of hf0]
      dsimp only
      rw [if_pos ⟨hS.op.symm,hS.size.symm,hS.cond.symm,fun e=>hS.rep_.trans e⟩,Option.bind_some,hk,Option.bind_some,hp]
      rfl
    · exact hS.back 0 (by decide) (by decide) (.inr (.inr hh)) hf1 _ (by rw [if_neg (by rw [hh];decide),List.nil_append])
  | true =>
    obtain ⟨r0,hok,_⟩:=hS.has hh
    obtain ⟨k,hk⟩:=run_how f reg x w1 hS.rgE
    cases he:posL f.how isEE with
    | none=>rw [hh,he] at w2;cases w2
    | some s =>
      rw [he] at hk
      refine ⟨hN,reg,f,rep,(spelledF hN ++ putF reg rm) ++ tailF x (tlP f.size 0 f.how),hS.h0,r0,hS.regs.2,w4,?_,?_⟩
      · unfold triedF frmT
        rw [frmD_of w4]
        dsimp only
        rw [if_pos ⟨hS.op.symm,hS.size.symm,hS.cond.symm,fun e=>hS.rep_.trans e⟩,Option.bind_some,hk,Option.bind_some]
        dsimp only [Option.map_some]
        rw [hS.rmE s he,if_pos (hok.put r0 hS.regs.2)]
      · exact hS.back reg r0 hS.regs.2 (.inl rfl) hS.head _ (by rw [if_pos hh,List.append_assoc])
end
section
open Go.ChangeShapes Go.WideShapes Go.ChangeAt Go.RowKit
def HRow (w:World) (x:Value) (l:List Int):Prop:=∃ B,x=.slice (some ⟨B,0,none⟩) l.length l.length∧w.heap[B]?=some (.cells (l.map (Value.int .u8)).toArray 5 (0,0))
theorem HRow.slc {w:World} {x:Value} {l:List Int} (h:HRow w x l):Slc .u8 w x l.length (lst l):=by
  obtain ⟨B,rfl,hB⟩:=h
  exact .inr ⟨_,_,rfl,Nat.le_refl _,fun i hi=>by rw [addr_add,Nat.zero_add,(cell_block hB i).1,List.getElem?_toArray,lst_map l i hi]⟩
theorem HRow.keep {w w':World} {x:Value} {l:List Int} (h:HRow w x l) (hk:∀ (B:Nat) (C:Array Value),w.heap[B]?=some (Obj.cells C 5 (0,0))→w'.heap[B]?=w.heap[B]?):HRow w' x l:=by
  obtain ⟨B,e,hB⟩:=h
  exact ⟨B,e,(hk B _ hB).trans hB⟩
def OwnR (w:World) (base:Nat) (v:Value) (LL:List (List Int)):Prop:=∃ S:List Value,S.length=LL.length∧w.ownsRow base 30 1 v LL.length S∧∀ j,j < LL.length→HRow w (S.getD j undef) (LL.getD j [])
theorem OwnR.nil (w:World) (base:Nat):OwnR w base (.slice none 0 0) []:=⟨[],rfl,World.ownsRow_nil w base _ 1,fun _ hj=>absurd hj (Nat.not_lt_zero _)⟩
theorem OwnR.below {w w':World} {base:Nat} {v:Value} {LL:List (List Int)} (h:OwnR w base v LL) (hb:Below w.heap.size w w'):OwnR w' base v LL:=by
  obtain ⟨S,h1,⟨h2,h3⟩,h4⟩:=h
  refine ⟨S,h1,⟨h2,?_⟩,fun j hj=>(h4 j hj).keep (fun B C hB=>hb.block B (Array.getElem?_eq_some_iff.1 hB).1)⟩
  rcases h3 with h3 | ⟨g,cap,cur,e1,e2,e3,e4⟩
  · exact .inl h3
  · refine .inr ⟨g,cap,cur,e1,e2,?_,e4⟩
    rw [hb.block g (Array.getElem?_eq_some_iff.1 e3).1]
    exact e3
theorem OwnR.len {w:World} {base:Nat} {v:Value} {LL:List (List Int)} (h:OwnR w base v LL):∃ a cap,v=.slice a LL.length cap:=by
  obtain ⟨S,_,⟨_,h2⟩,_⟩:=h
  rcases h2 with ⟨rfl,e⟩ | ⟨g,cap,cur,e1,_⟩
  · exact ⟨none,0,by rw [e]⟩
  · exact ⟨_,cap,e1⟩
theorem info_rowA:(Tryz.prog.info? 30).map (fun i=>(i.zero.map (·.cells.size),i.size,decide (i.bytes ≤ 200)))=some (some 1,1,true):=by kernel_rfl
theorem append_rows {w:World} {ops:Array Oper} {rest:List Oper} {o:Oper} {a:Act} {Q:Exit→Act→World→Prop} (hg:o.guard=none) (s x:Operand)
    (hop:o.op=Op.call { callee:=Callee.builtin Builtin.append,args:=#[s,x],argTypes:=#[59,59] })
    (base:Nat) (v:Value) (LL LL2:List (List Int)) (hs:a.eval s=v) (hown:OwnR w base v LL) (B m:Nat) (S2:List Value) (hx:a.eval x=.slice (some ⟨B,0,none⟩) m m) (hS2:S2.length=m) (hr:w.rangeAt B 0 S2) (h2:LL2.length=m)
    (hrows:∀ j,j < m→HRow w (S2.getD j undef) (LL2.getD j [])) (hn:LL.length+m ≤ 100000) (hb:base ≤ w.heap.size)
    (hK:∀ v' w',OwnR w' base v' (LL ++ LL2)→(∀ W,Below base W w→Below base W w')→w.heap.size ≤ w'.heap.size→wpList Tryz.prog ops Q rest (a.put o.dst v') w'):wpList Tryz.prog ops Q (o :: rest) a w:=by
  obtain ⟨i0,hi,hz,hsz,hby⟩:∃ i0,Tryz.prog.info? 30=some i0∧i0.zero.map (·.cells.size)=some 1∧i0.size=1∧i0.bytes ≤ 200:=by
    have h:=info_rowA
    cases hi:Tryz.prog.info? 30 with
    | none=>rw [hi] at h;cases h
    | some i0 =>
      rw [hi] at h
      simp only [Option.map_some,Option.some.injEq,Prod.mk.injEq,decide_eq_true_eq] at h
      exact ⟨i0,rfl,h.1,h.2.1,h.2.2⟩
  obtain ⟨z,hz0,hz1⟩:∃ z,i0.zero=some z∧z.cells.size=1:=by
    cases hzz:i0.zero with
    | none=>rw [hzz] at hz;cases hz
    | some z=>rw [hzz] at hz;exact ⟨z,rfl,by simpa using hz⟩
  obtain ⟨S,hS,hown,hin⟩:=hown
  have hbytes:(LL.length+m) * i0.bytes ≤ 140737488355328:=Nat.le_trans (Nat.mul_le_mul_left _ hby) (by omega)
  refine wpList_append_own w hg s x 59 hop base 30 i0 z 1 i0.bytes Tryz.underlying59 hi hz0 hsz rfl hz1 (by decide) v LL.length S hs hown ⟨B,0,none⟩ m m S2 hx (by omega) ?_ ?_ (by unfold maxLen;omega) hbytes hb ?_
  · intro j u hj
    rw [addr_add]
    exact hr j u hj
  · intro u hu
    obtain ⟨j,hj,rfl⟩:=List.mem_iff_getElem.1 hu
    obtain ⟨B,e,_⟩:=hrows j (by omega)
    rw [List.getD_eq_getElem?_getD,List.getElem?_eq_getElem hj,Option.getD_some] at e
    rw [e]
    rfl
  · intro v' w' ho hgr _
    have hkeep:∀ (B:Nat) (C:Array Value),w.heap[B]?=some (Obj.cells C 5 (0,0))→w'.heap[B]?=w.heap[B]?:=fun B C hB=>by
      refine hgr.block B (Array.getElem?_eq_some_iff.1 hB).1 (fun e=>?_)
      rcases hown.2 with ⟨rfl,_⟩ | ⟨g,cap,cur,e1,_,e3,_⟩
      · cases e
      · subst e1
        have e:some B=some g:=e
        injection e with e
        rw [e,e3] at hB
        injection hB with hB
        injection hB with _ hB _
        exact absurd hB (by decide)
    refine hK v' w' ⟨S ++ S2,by simp;omega,?_,fun j hj=>?_⟩ ?_ hgr.size
    · rw [List.length_append,h2]
      exact ho
    · rw [List.length_append] at hj
      by_cases hl:j < LL.length
      · have:=(hin j hl).keep hkeep
        simpa [List.getD_eq_getElem?_getD,List.getElem?_append_left (show j < S.length by omega),List.getElem?_append_left hl] using this
      · have:=(hrows (j - LL.length) (by omega)).keep hkeep
        simpa [List.getD_eq_getElem?_getD,List.getElem?_append_right (show S.length ≤ j by omega),List.getElem?_append_right (show LL.length ≤ j by omega),hS] using this
    · intro W hW
      exact hW.grown hgr hb (fun k hk=>(World.ownsRow.lt hown k hk).1)
def hdOk (c:Nat):Bool:=!(c == 15 || c == 242 || c == 243 || c == 102)
def rows1 (c:Nat):List (List Int):=((List.range c).filter hdOk).map fun k:Nat=>[(k:Int)]
def rows2 (c:Nat):List (List Int):=(List.range c).flatMap fun k:Nat=>[[15,(k:Int)],[242,15,(k:Int)],[102,15,(k:Int)],[243,(k:Int)]]
def headsR:List (List Int):=rows1 256 ++ rows2 256
theorem rows1_next (c:Nat):rows1 (c+1)=rows1 c ++ (if hdOk c then [[(c:Int)]] else []):=by
  unfold rows1
  rw [List.range_succ,List.filter_append,List.map_append]
  cases h:hdOk c <;> simp [h]
theorem rows2_next (c:Nat):rows2 (c+1)=rows2 c ++ [[15,(c:Int)],[242,15,(c:Int)],[102,15,(c:Int)],[243,(c:Int)]]:=by
  unfold rows2
  rw [List.range_succ,List.flatMap_append]
  simp
theorem rows1_le (c:Nat):(rows1 c).length ≤ c:=by
  unfold rows1
  rw [List.length_map]
  exact Nat.le_trans (List.length_filter_le _ _) (by simp)
theorem rows2_len (c:Nat):(rows2 c).length=c * 4:=by
  induction c with
  | zero=>simp [rows2]
  | succ c ih=>rw [rows2_next,List.length_append,ih];simp;omega
theorem hrow_new {w:World} {B:Nat} {l:List Int} {C:Array Value} {n:Nat} (h:w.heap[B]?=some (.cells C 5 (0,0))) (hC:C=(l.map (Value.int .u8)).toArray) (hn:n=l.length):HRow w (.slice (some ⟨B,0,none⟩) n n) l:=by
  subst hC hn
  exact ⟨B,rfl,h⟩
theorem heap_1 (w:World) (a:Obj):(w.alloc a).heap[w.heap.size]?=some a:=by
  show (w.heap.push _)[w.heap.size]?=_
  simp
theorem heap_0 {w:World} {B:Nat} {a:Obj} (h:w.heap[B]?=some a) (b:Obj):(w.alloc b).heap[B]?=some a:=by
  have:=(Array.getElem?_eq_some_iff.1 h).1
  show (w.heap.push _)[B]?=_
  rw [Array.getElem?_push,if_neg (by omega)]
  exact h
theorem range_new (w:World) (B:Nat) (hB:B=w.heap.size) (C:Array Value) (T:TypeId):(w.alloc (.cells C T)).rangeAt B 0 C.toList:=fun i v h=>by
  subst hB
  rw [Nat.zero_add,(cell_block (heap_1 w _) i).1]
  simpa using h
theorem heap_at (w:World) (a:Obj) (B:Nat) (hB:B=w.heap.size):(w.alloc a).heap[B]?=some a:=by subst hB;exact heap_1 w a
abbrev rows4S (w:World):List Value:=[.slice (some ⟨w.heap.size,0,none⟩) 2 2,.slice (some ⟨w.heap.size+1,0,none⟩) 3 3,.slice (some ⟨w.heap.size+1+1,0,none⟩) 3 3,.slice (some ⟨w.heap.size+1+1+1,0,none⟩) 2 2]
abbrev rows4W (w:World) (c:Int):World:=((((w.alloc (.cells #[.int .u8 15,.int .u8 c] 5)).alloc (.cells #[.int .u8 242,.int .u8 15,.int .u8 c] 5)).alloc (.cells #[.int .u8 102,.int .u8 15,.int .u8 c] 5)).alloc (.cells #[.int .u8 243,.int .u8 c] 5)).alloc (.cells #[.slice (some ⟨w.heap.size,0,none⟩) 2 2,.slice (some ⟨w.heap.size+1,0,none⟩) 3 3,.slice (some ⟨w.heap.size+1+1,0,none⟩) 3 3,.slice (some ⟨w.heap.size+1+1+1,0,none⟩) 2 2] 30)
theorem rows4 (w:World) (c:Int):(∀ j,j < 4→HRow (rows4W w c) ((rows4S w).getD j undef) ([[15,c],[242,15,c],[102,15,c],[243,c]].getD j []))∧(rows4W w c).rangeAt (w.heap.size+1+1+1+1) 0 (rows4S w):=by
  refine ⟨fun j hj=>?_,range_new _ _ (by simp) #[.slice (some ⟨w.heap.size,0,none⟩) 2 2,.slice (some ⟨w.heap.size+1,0,none⟩) 3 3,.slice (some ⟨w.heap.size+1+1,0,none⟩) 3 3,.slice (some ⟨w.heap.size+1+1+1,0,none⟩) 2 2] _⟩
  rcases (show j=0 ∨ j=1 ∨ j=2 ∨ j=3 by omega) with rfl | rfl | rfl | rfl
  · exact hrow_new (l:=[15,c]) (heap_0 (heap_0 (heap_0 (heap_0 (heap_at w _ _ rfl) _) _) _) _) rfl rfl
  · exact hrow_new (l:=[242,15,c]) (heap_0 (heap_0 (heap_0 (heap_at _ _ _ (by simp)) _) _) _) rfl rfl
  · exact hrow_new (l:=[102,15,c]) (heap_0 (heap_0 (heap_at _ _ _ (by simp)) _) _) rfl rfl
  · exact hrow_new (l:=[243,c]) (heap_0 (heap_at _ _ _ (by simp)) _) rfl rfl
set_option maxRecDepth 100000
set_option maxHeartbeats 8000000
theorem rheads_any (w:World):Calls Tryz.prog 21 #[] w fun e w'=>∃ v,e=.returned v∧OwnR w' w.heap.size v headsR∧Below w.heap.size w w':=by
  go_enter Tryz.func21,Tryz.ntmps21
  go_wp2_with fail
  go_loopw [1,2] (fun v1 v2 wr=>∃ c:Nat,c ≤ 256∧v2=.int .i64 c∧OwnR wr w.heap.size v1 (rows1 c)∧Below w.heap.size w wr) (fun _ v2 _=>256 - (intOf v2).toNat)
  case atStart=>exact ⟨0,by decide,rfl,OwnR.nil _ _,Below.refl _ _⟩
  case round =>
    obtain ⟨c,hc,rfl,ho,hb⟩:=hrel
    have HO:=Lib.hid ho
    have HB:=Lib.hid hb
    clear ho hb
    by_cases hlt:c < 256
    · have d1:decide ((c:Int) < 256)=true:=decide_eq_true (by omega)
      have hw:(c:Int) % 256=(c:Int):=by omega
      have hw':IntKind.u8.wrap (c:Int)=(c:Int):=by rw [IntKind.wrap_u8];omega
      have hne:=rows1_next c
      have hle:=rows1_le c
      have hcont:hdOk c=false→rows1 (c+1)=rows1 c:=fun h=>by rw [hne,h];simp
      by_cases h:c=15
      · have e:((c:Int) == 15)=true:=by simp;omega
        have HE:=Lib.hid (show rows1 (c+1)=rows1 c from hcont (by rw [h];rfl))
        clear h hcont hne hle
        go_wp2_with fail
        go_roundw
        case rel=>exact ⟨c+1,by omega,by go_num,by rw [HE.out];exact HO.out,HB.out⟩
        case measure=>simp [intOf];omega
      have e15:((c:Int) == 15)=false:=by simp;omega
      have h15:=Lib.hid h
      clear h
      by_cases h:c=242
      · have e:((c:Int) == 242)=true:=by simp;omega
        have HE:=Lib.hid (show rows1 (c+1)=rows1 c from hcont (by rw [h];rfl))
        clear h hcont hne hle
        go_wp2_with fail
        go_roundw
        case rel=>exact ⟨c+1,by omega,by go_num,by rw [HE.out];exact HO.out,HB.out⟩
        case measure=>simp [intOf];omega
      have e242:((c:Int) == 242)=false:=by simp;omega
      have h242:=Lib.hid h
      clear h
      by_cases h:c=243
      · have e:((c:Int) == 243)=true:=by simp;omega
        have HE:=Lib.hid (show rows1 (c+1)=rows1 c from hcont (by rw [h];rfl))
        clear h hcont hne hle
        go_wp2_with fail
        go_roundw
        case rel=>exact ⟨c+1,by omega,by go_num,by rw [HE.out];exact HO.out,HB.out⟩
        case measure=>simp [intOf];omega
      have e243:((c:Int) == 243)=false:=by simp;omega
      have h243:=Lib.hid h
      clear h
      by_cases h:c=102
      · have e:((c:Int) == 102)=true:=by simp;omega
        have HE:=Lib.hid (show rows1 (c+1)=rows1 c from hcont (by rw [h];rfl))
        clear h hcont hne hle
        go_wp2_with fail
        go_roundw
        case rel=>exact ⟨c+1,by omega,by go_num,by rw [HE.out];exact HO.out,HB.out⟩
        case measure=>simp [intOf];omega
      have e102:((c:Int) == 102)=false:=by simp;omega
      have h102:=Lib.hid h
      clear h
      have HE:=Lib.hid (show rows1 (c+1)=rows1 c ++ [[(c:Int)]] by rw [hne,if_pos (by have:=h15.out;have:=h242.out;have:=h243.out;have:=h102.out;unfold hdOk;simp;omega)])
      clear hcont hne
      have hrow:HRow (wr.alloc (.cells #[.int .u8 (c:Int)] 5)) (.slice (some ⟨wr.heap.size,0,none⟩) 1 1) [(c:Int)]:=hrow_new (heap_1 wr _) rfl rfl
      have HR:=Lib.hid (show ∀ j,j < 1→HRow ((wr.alloc (.cells #[.int .u8 (c:Int)] 5)).alloc (.cells #[.slice (some ⟨wr.heap.size,0,none⟩) 1 1] 30)) ([Value.slice (some ⟨wr.heap.size,0,none⟩) 1 1].getD j undef) ([[(c:Int)]].getD j []) from fun j hj=>by
        obtain rfl:j=0:=by omega
        exact hrow.keep (fun B C hB=>(heap_0 hB _).trans hB.symm))
      have HA:=Lib.hid (show ((wr.alloc (.cells #[.int .u8 (c:Int)] 5)).alloc (.cells #[.slice (some ⟨wr.heap.size,0,none⟩) 1 1] 30)).rangeAt (wr.heap.size+1) 0 [.slice (some ⟨wr.heap.size,0,none⟩) 1 1] from range_new _ _ (by simp) #[.slice (some ⟨wr.heap.size,0,none⟩) 1 1] _)
      clear hrow
      go_wp2_with (at_builtin;refine append_rows rfl (.tmp 15) (.tmp 19) rfl w.heap.size u1 (rows1 c) [[(c:Int)]] rfl (HO.out.below (below_last (below_last (Below.refl _ _) _) _)) (wr.heap.size+1) 1 [.slice (some ⟨wr.heap.size,0,none⟩) 1 1] (by simp [go_sem]) rfl HA.out rfl HR.out (by omega) (by have:=HB.out.size;simp;omega) ?_;intro v' w' hv hw hs;have HV:=Lib.hid hv;have HW:=Lib.hid (hw w (below_last (below_last HB.out _) _));clear hv hw hs)
      go_roundw
      case rel=>exact ⟨c+1,by omega,by go_num,by rw [HE.out];exact HV.out,HW.out⟩
      case measure=>simp [intOf];omega
    · have h256:c=256:=by omega
      have HO:=Lib.hid (show OwnR wr w.heap.size u1 (rows1 256) by have:=HO.out;rwa [h256] at this)
      have d1:decide ((c:Int) < 256)=false:=decide_eq_false (by omega)
      have H1:=Lib.hid (rows1_le 256)
      clear h256 hlt hc
      go_wp2_with fail
      go_loopw [1,3] (fun v1 v3 wr=>∃ c:Nat,c ≤ 256∧v3=.int .i64 c∧OwnR wr w.heap.size v1 (rows1 256 ++ rows2 c)∧Below w.heap.size w wr) (fun _ v3 _=>256 - (intOf v3).toNat)
      case atStart=>exact ⟨0,by decide,rfl,by rw [show rows2 0=[] by simp [rows2],List.append_nil];exact HO.out,HB.out⟩
      case round =>
        obtain ⟨c,hc,rfl,ho,hb⟩:=hrel
        have HO2:=Lib.hid ho
        have HB2:=Lib.hid hb
        clear ho hb
        by_cases hlt:c < 256
        · have d1:decide ((c:Int) < 256)=true:=decide_eq_true (by omega)
          have hw:(c:Int) % 256=(c:Int):=by omega
          have hw':IntKind.u8.wrap (c:Int)=(c:Int):=by rw [IntKind.wrap_u8];omega
          have HE:=Lib.hid (rows2_next c)
          have HL:=Lib.hid (rows2_len c)
          have HR:=Lib.hid (rows4 wr (c:Int))
          go_wp2_with (at_builtin;refine append_rows rfl (.tmp 25) (.tmp 38) rfl w.heap.size u1 (rows1 256 ++ rows2 c) [[15,(c:Int)],[242,15,(c:Int)],[102,15,(c:Int)],[243,(c:Int)]] rfl (HO2.out.below (below_last (below_last (below_last (below_last (below_last (Below.refl _ _) _) _) _) _) _)) (wr.heap.size+1+1+1+1) 4 (rows4S wr) (by simp [go_sem]) rfl HR.out.2 rfl HR.out.1 (by rw [List.length_append,HL.out];have:=H1.out;omega) (by have:=HB2.out.size;simp;omega) ?_;intro v' w' hv hw hs;have HV:=Lib.hid hv;have HW:=Lib.hid (hw w (below_last (below_last (below_last (below_last (below_last HB2.out _) _) _) _) _));clear hv hw hs)
          go_roundw
          case rel=>exact ⟨c+1,by omega,by go_num,by rw [HE.out,← List.append_assoc];exact HV.out,HW.out⟩
          case measure=>simp [intOf];omega
        · obtain rfl:c=256:=by omega
          go_wp2_with fail
          go_returns
          exact ⟨_,rfl,HO2.out,HB2.out⟩
end
section
def hdN:List Int:=((List.range 256).filter hdOk).map (fun k:Nat=>(k:Int)) ++ (List.range 256).flatMap fun k:Nat=>[15 * 256+(k:Int),242 * 65536+15 * 256+(k:Int),102 * 65536+15 * 256+(k:Int),243 * 256+(k:Int)]
theorem heads_num:headsR=hdN.map spelledF:=by kernel_rfl
theorem hd_len:hdN.length=1276:=by kernel_rfl
theorem hd_in {h reg:Int} {m3:Bool} {f:Frm} {rep:Bool} (h0:0 ≤ h) (hf:frmH h reg m3=some (f,rep)):h ∈ hdN:=by
  unfold hdN
  rw [List.mem_append]
  unfold frmH at hf
  by_cases h1:h < 256
  · rw [if_pos h1] at hf
    unfold oneH at hf
    split at hf
    · cases hf
    · rename_i hs
      refine .inl (List.mem_map.2 ⟨h.toNat,List.mem_filter.2 ⟨List.mem_range.2 (by omega),?_⟩,by omega⟩)
      unfold hdOk
      simp
      omega
  · rw [if_neg h1] at hf
    refine .inr (List.mem_flatMap.2 ?_)
    unfold twoH at hf
    by_cases h2:0x0f00 ≤ h∧h < 0x1000
    · exact ⟨(h - 0x0f00).toNat,List.mem_range.2 (by omega),by simp;omega⟩
    rw [if_neg h2] at hf
    by_cases h3:0xf300 ≤ h∧h < 0xf400
    · exact ⟨(h - 0xf300).toNat,List.mem_range.2 (by omega),by simp;omega⟩
    rw [if_neg h3] at hf
    by_cases h4:0x660f00 ≤ h∧h < 0x661000
    · exact ⟨(h - 0x660f00).toNat,List.mem_range.2 (by omega),by simp;omega⟩
    rw [if_neg h4] at hf
    by_cases h5:0xf20f00 ≤ h∧h < 0xf21000
    · exact ⟨(h - 0xf20f00).toNat,List.mem_range.2 (by omega),by simp;omega⟩
    rw [if_neg h5] at hf
    cases hf
theorem hd_kind {h:Int} (hm:h ∈ hdN):(0 ≤ h∧h < 256∧h ≠ 15∧h ≠ 242∧h ≠ 243∧h ≠ 102) ∨ ∃ k:Int,0 ≤ k∧k < 256∧(h=15 * 256+k ∨ h=242 * 65536+15 * 256+k ∨ h=102 * 65536+15 * 256+k ∨ h=243 * 256+k):=by
  unfold hdN at hm
  rcases List.mem_append.1 hm with hm | hm
  · obtain ⟨k,hk,rfl⟩:=List.mem_map.1 hm
    obtain ⟨h1,h2⟩:=List.mem_filter.1 hk
    have:=List.mem_range.1 h1
    unfold hdOk at h2
    simp at h2
    exact .inl (by omega)
  · obtain ⟨k,hk,hm⟩:=List.mem_flatMap.1 hm
    have:=List.mem_range.1 hk
    refine .inr ⟨(k:Int),by omega,by omega,?_⟩
    simpa only [List.mem_cons,List.not_mem_nil,or_false] using hm
theorem first_how:((List.range 256).all fun c=>(List.range 8).all fun r=>decide ((firstF (c:Int) (r:Int) false).1.how.length ≤ 4))=true:=by kernel_rfl
theorem second_how:((List.range 256).all fun c=>[(0:Int),102,242].all fun p=>decide ((secondF p (c:Int)).1.how.length ≤ 4))=true:=by kernel_rfl
theorem first_le (c reg:Int) (c0:0 ≤ c) (c1:c < 256) (r0:0 ≤ reg) (r1:reg < 8):(firstF c reg false).1.how.length ≤ 4:=by
  obtain ⟨n,rfl⟩:=Int.eq_ofNat_of_zero_le c0
  obtain ⟨r,rfl⟩:=Int.eq_ofNat_of_zero_le r0
  exact of_decide_eq_true (List.all_eq_true.1 (List.all_eq_true.1 first_how n (List.mem_range.2 (by omega))) r (List.mem_range.2 (by omega)))
theorem second_le (p c:Int) (c0:0 ≤ c) (c1:c < 256) (hp:p=0 ∨ p=102 ∨ p=242):(secondF p c).1.how.length ≤ 4:=by
  obtain ⟨n,rfl⟩:=Int.eq_ofNat_of_zero_le c0
  exact of_decide_eq_true (List.all_eq_true.1 (List.all_eq_true.1 second_how n (List.mem_range.2 (by omega))) p (by rcases hp with rfl | rfl | rfl <;> simp))
theorem of_eq {y:Frm × Bool} {f:Frm} {rep:Bool} (h:ofS y=some (f,rep)):y=(f,true)∧rep=false:=by
  obtain ⟨g,b⟩:=y
  unfold ofS at h
  cases b with
  | false=>cases h
  | true=>cases h;exact ⟨rfl,rfl⟩
theorem how_le {h reg:Int} {f:Frm} {rep:Bool} (hm:h ∈ hdN) (r0:0 ≤ reg) (r1:reg < 8) (hf:frmD h reg=some (f,rep)):f.how.length ≤ 4:=by
  unfold frmD at hf
  by_cases h1:h < 256
  · rw [if_pos h1] at hf
    split at hf
    · cases hf
      exact first_le h reg (by rcases hd_kind hm with h | ⟨k,_,_,h⟩ <;> omega) h1 r0 r1
    · cases hf
  rw [if_neg h1] at hf
  by_cases h2:0xf300 ≤ h∧h < 0xf400
  · rw [if_pos h2] at hf
    split at hf
    · cases hf
      exact first_le _ reg (by omega) (by omega) r0 r1
    · cases hf
  rw [if_neg h2] at hf
  have fin:∀ p c,0 ≤ c→c < 256→(p=0 ∨ p=102 ∨ p=242)→ofS (secondF p c)=some (f,rep)→f.how.length ≤ 4:=fun p c c0 c1 hp h=>by
    have:=second_le p c c0 c1 hp
    rw [(of_eq h).1] at this
    exact this
  split at hf
  · exact fin _ _ (by omega) (by omega) (.inl rfl) hf
  · split at hf
    · exact fin _ _ (by omega) (by omega) (.inr (.inl rfl)) hf
    · split at hf
      · exact fin _ _ (by omega) (by omega) (.inr (.inr rfl)) hf
      · cases hf
theorem runT_len {f:Frm} {reg:Int} {x:Ins}:∀ {l:List UInt8} {s t:Tst},runT f reg x l s=some t→t.tl.length ≤ s.tl.length+4 * l.length∧(isByte s.tl→isByte t.tl)∧t.k ≤ s.k+l.length
  | [],s,t,h=>by cases h;exact ⟨by simp,fun h=>h,by simp⟩
  | c :: l,s,t,h=>by
    change (stepT f reg x s c).bind (runT f reg x l)=some t at h
    cases hs:stepT f reg x s c with
    | none=>rw [hs] at h;cases h
    | some u =>
      rw [hs] at h
      obtain ⟨h1,h2,h3⟩:=runT_len (l:=l) (s:=u) h
      have hn:needF f.size c ≤ 4:=by unfold needF;repeat' (first | omega | split)
      unfold stepT at hs
      have fin:u.tl.length ≤ s.tl.length+4∧(isByte s.tl→isByte u.tl)∧u.k ≤ s.k+1:=by
        split at hs
        · cases hs
          exact ⟨by rw [List.length_append,low_len];omega,fun h=>byte_app h (byte_low _ _),by show s.k ≤ _;omega⟩
        · split at hs
          · cases hs
          · cases hs
            exact ⟨by rw [List.length_append,low_len];omega,fun h=>byte_app h (byte_low _ _),Nat.le_refl _⟩
      refine ⟨?_,fun h=>h2 (fin.2.1 h),?_⟩
      · rw [List.length_cons];omega
      · rw [List.length_cons];omega
theorem tried_ok {h reg:Int} {x:Ins} {E:List Int} (hm:h ∈ hdN) (r0:0 ≤ reg) (r1:reg < 8) (ht:triedF h reg x=some E):isByte E∧E.length ≤ 30:=by
  unfold triedF frmT at ht
  cases hf:frmD h reg with
  | none=>rw [hf] at ht;cases ht
  | some y =>
    obtain ⟨f,rep⟩:=y
    have hl:=how_le hm r0 r1 hf
    rw [hf] at ht
    dsimp only at ht
    split at ht
    · rw [Option.bind_some] at ht
      cases hr:runT f reg x f.how ⟨0,none,[]⟩ with
      | none=>rw [hr] at ht;cases ht
      | some s =>
        rw [hr,Option.bind_some] at ht
        obtain ⟨h1,h2,_⟩:=runT_len hr
        have hb:=h2 byte_nil
        have hsl:=spelled_le h
        have h1:s.tl.length ≤ 0+4 * f.how.length:=h1
        split at ht
        · cases ht
          exact ⟨byte_app (byte_spelled _) hb,by rw [List.length_append];omega⟩
        · rename_i rm _
          split at ht
          · rename_i hp
            cases ht
            have:=put_le reg rm
            exact ⟨byte_app (byte_app (byte_spelled _) (byte_put hp)) hb,by rw [List.length_append,List.length_append];omega⟩
          · cases ht
    · cases ht
theorem runT_few (f:Frm) (reg:Int) (x:Ins) (n:Int):∀ (l:List UInt8) (s:Tst),runT f reg { x with len:=n } l s=runT f reg x l s
  | [],_=>rfl
  | c :: l,s=>by
    show (stepT f reg x s c).bind _=(stepT f reg x s c).bind _
    cases stepT f reg x s c with
    | none=>rfl
    | some t=>exact runT_few f reg x n l t
theorem tried_few (h reg:Int) (x:Ins) (n:Int):triedF h reg { x with len:=n }=triedF h reg x:=by
  show (frmT h reg x).bind _=(frmT h reg x).bind _
  cases frmT h reg x with
  | none=>rfl
  | some f =>
    rw [Option.bind_some,Option.bind_some,runT_few]
theorem enc_tried {x:Ins} (h:∀ hN ∈ hdN,∀ reg:Int,0 ≤ reg→reg < 8→∀ E,triedF hN reg x=some E→isF' x E=false):encF x=([],22):=by
  rcases enc_code x with h0 | h0
  · exfalso
    obtain ⟨h1,h2,_⟩:=enc_read h0
    obtain ⟨hN,reg,f,rep,E,n0,r0,r1,hf,ht,hE⟩:=tried_some (byte_lst h2) h1
    rw [tried_few] at ht
    have:=h hN (hd_in n0 hf) reg r0 r1 E ht
    unfold isF' at this
    exact absurd hE (of_decide_eq_false this)
  · exact h0
theorem enc_found {x:Ins} {E:List Int} (hb:isByte E) (h:isF' x E=true):(encF x).2=0:=by
  unfold isF' at h
  have:=enc_some (byte_lst hb) (of_decide_eq_true h)
  rwa [enc_few] at this
end
section
open Go.ChangeShapes Go.WideShapes Go.ChangeAt Go.RowKit
def frmC (f:Frm):Array Value:=#[.int .i64 f.op,.int .i64 f.cond,.int .i64 f.size,.string ⟨f.how.toArray⟩,.int .i64 f.c]
def frmZ:Array Value:=#[.int .i64 0,.int .i64 0,.int .i64 0,.string ⟨#[]⟩,.int .i64 0]
theorem info_form:(Tryz.prog.info? 45).map (·.size)=some 5:=by kernel_rfl
structure TS (w:World) (x:Ins) (C:Array Value) (u:World):Prop where
  bx:u.heap[w.heap.size]?=some (.cells (insC x) 26 (0,0))
  bf:u.heap[w.heap.size+1]?=some (.cells C 45 (0,0))
  bel:Below w.heap.size w u
  lt:w.heap.size+1 < u.heap.size
theorem TS.start {w w2:World} {x:Ins} (hb:Below ((w.alloc (.cells (insC x) 26)).alloc (.cells frmZ 45)).heap.size ((w.alloc (.cells (insC x) 26)).alloc (.cells frmZ 45)) w2):TS w x frmZ w2:=by
  have h1:w.heap.size+1 < w2.heap.size:=by have:=hb.size;simp at this;omega
  refine ⟨?_,?_,?_,h1⟩
  · rw [hb.block _ (by simp;omega)]
    exact heap_0 (heap_1 w _) _
  · rw [hb.block _ (by simp)]
    exact heap_at _ _ _ (by simp)
  · exact (below_last (below_last (Below.refl _ _) _) _).trans (hb.mono (by simp;omega))
theorem TS.drawn {w w2:World} {x:Ins} (hb:Below ((w.alloc (.cells (insC x) 26)).alloc (.cells frmZ 45)).drew.heap.size ((w.alloc (.cells (insC x) 26)).alloc (.cells frmZ 45)).drew w2):TS w x frmZ w2 :=
  TS.start ((Below.refl _ _).drew.trans hb)
theorem TS.on {w u u':World} {x:Ins} {C:Array Value} (h:TS w x C u) (hb:Below u.heap.size u u'):TS w x C u' :=
  ⟨(hb.block _ (by have:=h.lt;omega)).trans h.bx,(hb.block _ h.lt).trans h.bf,below_step h.bel hb,Nat.lt_of_lt_of_le h.lt hb.size⟩
theorem TS.put {w u Y:World} {x:Ins} {f:Frm} (h:TS w x frmZ u) (hY:Y=u.setCells (w.heap.size+1) 0 [.int .i64 f.op,.int .i64 f.cond,.int .i64 f.size,.string ⟨f.how.toArray⟩,.int .i64 f.c]):TS w x (frmC f) Y:=by
  subst hY
  refine ⟨(other_setCells (by omega) _ _ _).trans h.bx,block_setCells _ 0 u frmZ h.bf,below_setCells (by omega) _ _ _ h.bel,by rw [setCells_size];exact h.lt⟩
theorem TS.zero {w u:World} {x:Ins} (h:TS w x frmZ u):u.there (w.heap.size+1) 0 5:=there_block h.bf 0 5 (by decide)
def frmK (h reg:Int) (x:Ins):Frm × Bool :=
  if h < 256 then ((firstF h reg false).1,(firstF h reg false).2.1)
  else if 0xf300 ≤ h∧h < 0xf400 then ((firstF (h - 0xf300) reg false).1,(firstF (h - 0xf300) reg false).2.1 && (((firstF (h - 0xf300) reg false).1.op == x.op) && x.rep))
  else if 0x0f00 ≤ h∧h < 0x1000 then secondF 0 (h - 0x0f00)
  else if 0x660f00 ≤ h∧h < 0x661000 then secondF 102 (h - 0x660f00)
  else secondF 242 (h - 0xf20f00)
theorem kF3 (k reg:Int) (x:Ins) (k0:0 ≤ k) (k1:k < 256):frmK (243 * 256+k) reg x=((firstF k reg false).1,(firstF k reg false).2.1 && (((firstF k reg false).1.op == x.op) && x.rep)):=by
  unfold frmK
  rw [if_neg (by omega),if_pos (by omega),show 243 * 256+k - 0xf300=k by omega]
theorem k0F (k reg:Int) (x:Ins) (k0:0 ≤ k) (k1:k < 256):frmK (15 * 256+k) reg x=secondF 0 k:=by
  unfold frmK
  rw [if_neg (by omega),if_neg (by omega),if_pos (by omega),show 15 * 256+k - 0x0f00=k by omega]
theorem kPP (p k reg:Int) (x:Ins) (hp:p=242 ∨ p=102) (k0:0 ≤ k) (k1:k < 256):frmK (p * 65536+15 * 256+k) reg x=secondF p k:=by
  unfold frmK
  rcases hp with rfl | rfl
  · rw [if_neg (by omega),if_neg (by omega),if_neg (by omega),if_neg (by omega),show 242 * 65536+15 * 256+k - 0xf20f00=k by omega]
  · rw [if_neg (by omega),if_neg (by omega),if_neg (by omega),if_pos (by omega),show 102 * 65536+15 * 256+k - 0x660f00=k by omega]
def TryV (w:World) (x:Ins) (F:Frm) (ok:Bool) (ad:Addr) (c0:Nat) (p k:Int):Nat→Value→World→Prop
  | 0,v,_=>v=.slice (some ad) 3 c0
  | 1,v,_=>v=.pointer (some ad)
  | 2,v,_=>v=.int .u8 p
  | 3,v,_=>v=.slice (some ad) 3 c0
  | 4,v,_=>v=.pointer (some ⟨ad.block,ad.off+2,none⟩)
  | 5,v,_=>v=.int .u8 k
  | 6,v,_=>v=.tuple #[.agg (frmC F),.bool ok]
  | 7,v,_=>v=.tuple #[.agg (frmC F),.bool ok]
  | 8,v,_=>v=.agg (frmC F)
  | 9,v,_=>v=.bool ok
  | 10,_,u=>TS w x (frmC F) u
  | 11,v,_=>v=.bool ok
  | _,_,_=>True
theorem tryv_stays {w:World} {x:Ins} {F:Frm} {ok:Bool} {ad:Addr} {c0:Nat} {p k:Int} {i:Nat} {v:Value} {u u':World} (h:TryV w x F ok ad c0 p k i v u) (hg:TS w x (frmC F) u→TS w x (frmC F) u'):TryV w x F ok ad c0 p k i v u':=by
  unfold TryV at h ⊢
  split at h
  all_goals first
    | exact h
    | exact hg h
theorem TS.put2 {w u Y:World} {x:Ins} {C:Array Value} {f:Frm} (h:TS w x C u) (hC:C=frmZ ∨ C=frmC f) (hY:Y=u.setCells (w.heap.size+1) 0 [.int .i64 f.op,.int .i64 f.cond,.int .i64 f.size,.string ⟨f.how.toArray⟩,.int .i64 f.c]):TS w x (frmC f) Y:=by
  rcases hC with rfl | rfl
  · exact h.put hY
  · subst hY
    exact ⟨(other_setCells (by omega) _ _ _).trans h.bx,block_setCells _ 0 u (frmC f) h.bf,below_setCells (by omega) _ _ _ h.bel,by rw [setCells_size];exact h.lt⟩
def TryR (w:World) (T:Option (List Int)) (e:Ending) (w':World):Prop:=∃ v,e=.returned (.tuple #[v,.bool T.isSome])∧Slc .u8 w' v (T.getD []).length (lst (T.getD []))∧Below w.heap.size w w'
theorem slc_some {w:World} {a:Option Addr} {n c:Nat} {bs:Nat→Int} (h:Slc .u8 w (.slice a n c) n bs) (h0:0 < n):∃ ad,a=some ad∧n ≤ c∧∀ i,i < n→w.cell? (ad.add i)=some (.int .u8 (bs i)):=by
  rcases h with ⟨_,h⟩ | ⟨ad,c',e,h1,h2⟩
  · omega
  · injection e with e1 e2 e3
    subst e3
    exact ⟨ad,e1,h1,h2⟩
theorem frmT_K {h reg:Int} {x:Ins} {F:Frm} {ok:Bool} (hm:h ∈ hdN) (hK:frmK h reg x=(F,ok)):frmT h reg x=if ok=true∧F.op=x.op∧F.size=x.size∧F.cond=x.cond then some F else none:=by
  have two:∀ (y:Frm × Bool),y=(F,ok)→(match ofS y with | none=>none | some (f,rep)=>if f.op=x.op∧f.size=x.size∧f.cond=x.cond∧(rep=true→x.rep=true) then some f else none)=if ok=true∧F.op=x.op∧F.size=x.size∧F.cond=x.cond then some F else none:=fun y e=>by
    rw [e]
    unfold ofS
    cases ok <;> simp
  unfold frmT frmD
  unfold frmK at hK
  by_cases h1:h < 256
  · rw [if_pos h1] at hK ⊢
    injection hK with k1 k2
    rw [k1,k2]
    cases ok <;> simp
  rw [if_neg h1] at hK ⊢
  by_cases h2:0xf300 ≤ h∧h < 0xf400
  · rw [if_pos h2] at hK ⊢
    injection hK with k1 k2
    rw [← k1,← k2]
    cases (firstF (h - 62208) reg false).2.1 <;> by_cases ho:(firstF (h - 62208) reg false).1.op=x.op <;> cases x.rep <;> simp [ho]
  rw [if_neg h2] at hK ⊢
  by_cases h3:0x0f00 ≤ h∧h < 0x1000
  · rw [if_pos h3] at hK ⊢;exact two _ hK
  rw [if_neg h3] at hK ⊢
  by_cases h4:0x660f00 ≤ h∧h < 0x661000
  · rw [if_pos h4] at hK ⊢;exact two _ hK
  rw [if_neg h4] at hK ⊢
  rw [if_pos (by rcases hd_kind hm with h | ⟨k,_,_,h⟩ <;> omega)]
  exact two _ hK
theorem howK_le {h reg:Int} {x:Ins} {F:Frm} {ok:Bool} (hm:h ∈ hdN) (r0:0 ≤ reg) (r1:reg < 8) (hT:frmT h reg x=if ok=true∧F.op=x.op∧F.size=x.size∧F.cond=x.cond then some F else none) (hall:ok=true∧F.op=x.op∧F.size=x.size∧F.cond=x.cond):F.how.length ≤ 4:=by
  rw [if_pos hall] at hT
  unfold frmT at hT
  cases hf:frmD h reg with
  | none=>rw [hf] at hT;cases hT
  | some y =>
    obtain ⟨f,rep⟩:=y
    rw [hf] at hT
    dsimp only at hT
    split at hT
    · cases hT
      exact how_le hm r0 r1 hf
    · cases hT
theorem spelled_pos (o:Int):0 < (spelledF o).length:=by unfold spelledF;rw [List.length_append,List.length_append];simp only [List.length_cons,List.length_nil];omega
theorem info_o6:(Tryz.prog.info? 24).map (·.size)=some 6:=by kernel_rfl
theorem range_ins {u:World} {B:Nat} {C:Array Value} {T:TypeId} (h:u.heap[B]?=some (.cells C T (0,0))) (o:Nat) (cs:List Value) (hc:(C.toList.drop o).take cs.length=cs):u.rangeAt B o cs:=fun i v hi=>by
  have hl:=(List.getElem?_eq_some_iff.1 hi).1
  rw [(cell_block h (o+i)).1]
  rw [← hc] at hi
  simpa [List.getElem?_take,List.getElem?_drop,hl] using hi
theorem append_row8 {w:World} {ops:Array Oper} {rest:List Oper} {o:Oper} {a:Act} {Q:Exit→Act→World→Prop}
    (hg:o.guard=none) (s x:Operand) (hop:o.op=Op.call { callee:=Callee.builtin Builtin.append,args:=#[s,x],argTypes:=#[30,30] })
    (base:Nat) (v1 v2:Value) (l1 l2:List Int) (hs:a.eval s=v1) (hown:w.ownsRow base 5 1 v1 l1.length (l1.map (.int .u8))) (hx:a.eval x=v2) (h2:Slc .u8 w v2 l2.length (lst l2)) (h0:0 < l2.length) (hb:l1.length+l2.length ≤ 1000000) (hbase:base ≤ w.heap.size)
    (hK:∀ v' w',w'.ownsRow base 5 1 v' (l1 ++ l2).length ((l1 ++ l2).map (.int .u8))→w.grownBy w' v1.ownBlock→wpList Tryz.prog ops Q rest (a.put o.dst v') w'):wpList Tryz.prog ops Q (o :: rest) a w:=by
  obtain ⟨i0,hi,hz0,hz1,hz2⟩:=info_parts info_u8'
  rcases h2 with ⟨_,h⟩ | ⟨b,c,rfl,hc,hcell⟩
  · omega
  refine wpList_append_own w hg s x 30 hop base 5 i0 (.int .u8 0) 1 1 Tryz.underlying30 hi hz0 hz1 hz2 rfl (by decide) v1 l1.length (l1.map (.int .u8)) hs hown b l2.length c (l2.map (.int .u8)) hx (by simp) ?_ (int_one _ _) (by unfold maxLen;omega) (by omega) hbase ?_
  · intro j u hj
    have hl:j < l2.length:=by simpa using (List.getElem?_eq_some_iff.1 hj).1
    rw [lst_map l2 j hl] at hj
    cases hj
    exact hcell j hl
  · intro v' w' ho hgr _
    exact hK v' w' (by rw [List.length_append,List.map_append];exact ho) hgr
def opsC (x:Ins):Array Value:=#[.int .i64 x.a.kind,.int .i64 x.a.reg,.int .i64 x.a.base,.int .i64 x.a.index,.int .i64 x.a.scale,.int .u32 x.a.disp,.int .i64 x.b.kind,.int .i64 x.b.reg,.int .i64 x.b.base,.int .i64 x.b.index,.int .i64 x.b.scale,.int .u32 x.b.disp]
structure TL (w w13:World) (x:Ins) (F:Frm) (v10:Value) (l10:List Int) (rm:Opd) (u:World):Prop where
  bx:u.heap[w.heap.size]?=some (.cells (insC x) 26 (0,0))
  bf:u.heap[w.heap.size+1]?=some (.cells (frmC F) 45 (0,0))
  bo:u.heap[w13.heap.size]?=some (.cells (opsC x) 24 (0,0))
  br:u.heap[w13.heap.size+1]?=some (.cells (opC rm) 24 (0,0))
  b10:u.ownsRow w.heap.size 5 1 v10 l10.length (l10.map (.int .u8))
  bel:Below w.heap.size w u
  lt:w13.heap.size+2 ≤ u.heap.size
  o1:w.heap.size+1 < w13.heap.size
  o2:∀ k,v10.ownBlock=some k→k < w13.heap.size
theorem row_keep {u u':World} {base:Nat} {v:Value} {n:Nat} {cs:List Value} (h:u.ownsRow base 5 1 v n cs) (hk:∀ k,v.ownBlock=some k→u'.heap[k]?=u.heap[k]?):u'.ownsRow base 5 1 v n cs:=by
  obtain ⟨h1,h2⟩:=h
  refine ⟨h1,?_⟩
  rcases h2 with h2 | ⟨g,cap,cur,e1,e2,e3,e4⟩
  · exact .inl h2
  · subst e1
    exact .inr ⟨g,cap,cur,rfl,e2,(hk g rfl).trans e3,e4⟩
theorem TL.on {w w13 u u':World} {x:Ins} {F:Frm} {v10:Value} {l10:List Int} {rm:Opd} (h:TL w w13 x F v10 l10 rm u) (hb:Below (w13.heap.size+2) u u'):TL w w13 x F v10 l10 rm u' :=
  ⟨(hb.block _ (by have:=h.o1;omega)).trans h.bx,(hb.block _ (by have:=h.o1;omega)).trans h.bf,(hb.block _ (by omega)).trans h.bo,(hb.block _ (by omega)).trans h.br,row_keep h.b10 (fun k hk=>hb.block k (by have:=h.o2 k hk;omega)),h.bel.trans (hb.mono (by have:=h.o1;omega)),Nat.le_trans h.lt hb.size,h.o1,h.o2⟩
theorem TL.put {w w13 u Y:World} {x:Ins} {F:Frm} {v10:Value} {l10:List Int} {rm:Opd} (h:TL w w13 x F v10 l10 rm u) (rm':Opd) (hs:Y.heap[w13.heap.size+1]?=some (.cells (opC rm') 24 (0,0))) (ho:∀ k,k ≠ w13.heap.size+1→Y.heap[k]?=u.heap[k]?) (hb:Below w.heap.size w Y) (hz:u.heap.size ≤ Y.heap.size):TL w w13 x F v10 l10 rm' Y :=
  ⟨(ho _ (by have:=h.o1;omega)).trans h.bx,(ho _ (by have:=h.o1;omega)).trans h.bf,(ho _ (by omega)).trans h.bo,hs,row_keep h.b10 (fun k hk=>ho k (by have:=h.o2 k hk;omega)),hb,Nat.le_trans h.lt hz,h.o1,h.o2⟩
theorem ownz_keep {u u':World} {base:Nat} {v:Value} {l:List Int} (h:OwnZ u base v l) (hz:u.heap.size ≤ u'.heap.size) (hk:∀ k,base ≤ k→k < u.heap.size→u'.heap[k]?=u.heap[k]?):OwnZ u' base v l:=by
  rcases h with h | ⟨g,cap,e,h1,h2,h3,h4,h5,h6⟩
  · exact .inl h
  · have hg:=hk g h1 h2
    refine .inr ⟨g,cap,e,h1,Nat.lt_of_lt_of_le h2 hz,h3,h4,fun j v hj=>?_,fun j hj=>?_⟩
    · have:=h5 j v hj
      unfold World.cell? at this ⊢
      simp only at this ⊢
      rw [hg]
      exact this
    · have:=h6 j hj
      unfold World.cell? World.frozen? at this ⊢
      simp only at this ⊢
      rw [hg]
      exact this
theorem TL.store {w w13 u Y:World} {x:Ins} {F:Frm} {v10 v:Value} {l10 l:List Int} {rm:Opd} (h:TL w w13 x F v10 l10 rm u) (ht:OwnZ u (w13.heap.size+2) v l) (o:Opd) (hY:Y=u.setCells (w13.heap.size+1) 0 [.int .i64 o.kind,.int .i64 o.reg,.int .i64 o.base,.int .i64 o.index,.int .i64 o.scale,.int .u32 o.disp]):TL w w13 x F v10 l10 o Y∧OwnZ Y (w13.heap.size+2) v l:=by
  subst hY
  exact ⟨h.put o (block_setCells _ 0 u (opC rm) h.br) (fun k hk=>other_setCells hk _ _ _) (below_setCells (by have:=h.o1;omega) _ _ _ h.bel) (by rw [setCells_size];exact Nat.le_refl _),ownz_keep ht (by rw [setCells_size];exact Nat.le_refl _) (fun k hk _=>other_setCells (by omega) _ _ _)⟩
theorem TL.kind {w w13 u:World} {x:Ins} {F:Frm} {v10 v:Value} {l10 l:List Int} {rm:Opd} (h:TL w w13 x F v10 l10 rm u) (ht:OwnZ u (w13.heap.size+2) v l):TL w w13 x F v10 l10 { rm with kind:=1 } (u.setCell ⟨w13.heap.size+1,0,none⟩ (.int .i64 1))∧OwnZ (u.setCell ⟨w13.heap.size+1,0,none⟩ (.int .i64 1)) (w13.heap.size+2) v l :=
  ⟨h.put _ (block_setCell h.br 0 _) (fun k hk=>other_setCell hk 0 _) (h.bel.setCell (by have:=h.o1;show w.heap.size ≤ w13.heap.size+1;omega) _) (by simp),ownz_keep ht (by simp) (fun k hk _=>other_setCell (by omega) 0 _)⟩
theorem TL.start {w w13:World} {x:Ins} {F:Frm} {v10:Value} {l10:List Int} (h:TS w x (frmC F) w13) (hown:w13.ownsRow w.heap.size 5 1 v10 l10.length (l10.map (.int .u8))):TL w w13 x F v10 l10 zeroO ((w13.alloc (.cells (opsC x) 24)).alloc (.cells (opC zeroO) 24)):=by
  have hk:∀ k,k < w13.heap.size→((w13.alloc (.cells (opsC x) 24)).alloc (.cells (opC zeroO) 24)).heap[k]?=w13.heap[k]?:=fun k hk=>(below_last (below_last (Below.refl _ _) _) _).block k hk
  have ho2:∀ k,v10.ownBlock=some k→k < w13.heap.size:=fun k hq=>(World.ownsRow.lt hown k hq).2
  refine ⟨(hk _ (by have:=h.lt;omega)).trans h.bx,(hk _ h.lt).trans h.bf,heap_0 (heap_at _ _ _ rfl) _,heap_at _ _ _ (by simp),row_keep hown (fun k hq=>hk k (ho2 k hq)),below_last (below_last h.bel _) _,by simp,h.lt,ho2⟩
theorem put4_slc (w:World) (B:Nat) (hB:B=w.heap.size) (v:Int) (v0:0 ≤ v) (v1:v < 4294967296):Slc .u8 (w.alloc (.cells #[.int .u8 (v % 256),.int .u8 (v / 256 % 256),.int .u8 (v / 65536 % 256),.int .u8 (v / 16777216)] 5)) (.slice (some ⟨B,0,none⟩) 4 4) (lowF v 4).length (lst (lowF v 4)):=by
  subst hB
  rw [low_len,low_4,show v / 16777216 % 256=v / 16777216 by omega]
  exact slc_new w _ _ 4 4 _ (Nat.le_refl _) (fun i hi=>by
    rcases (show i=0 ∨ i=1 ∨ i=2 ∨ i=3 by omega) with rfl | rfl | rfl | rfl <;> rfl)
theorem low1_slc (w:World) (B:Nat) (hB:B=w.heap.size) (v:Int):Slc .u8 (w.alloc (.cells #[.int .u8 (v % 256)] 5)) (.slice (some ⟨B,0,none⟩) 1 1) (lowF v 1).length (lst (lowF v 1)):=by
  subst hB
  rw [low_len,low_1]
  exact slc_new w _ _ 1 1 _ (Nat.le_refl _) (fun i hi=>by
    obtain rfl:i=0:=by omega
    rfl)
theorem row_own {u:World} {base:Nat} {v:Value} {l:List Int} (h:u.ownsRow base 5 1 v l.length (l.map (.int .u8))) (h0:0 < l.length):OwnB u base v l:=by
  obtain ⟨_,h2⟩:=h
  rcases h2 with ⟨_,h2⟩ | ⟨g,cap,cur,rfl,e2,e3,e4,e5,e6,e7⟩
  · omega
  · exact ⟨g,cap,rfl,e2,(Array.getElem?_eq_some_iff.1 e3).1,e4,e5,range_ins e3 0 _ (by simpa using e7),there_block e3 0 cap (by omega)⟩
theorem put_pos (reg:Int) (o:Opd):0 < (putF reg o).length:=by
  unfold putF
  repeat' split
  all_goals exact Nat.succ_pos _
theorem runT_rm {f:Frm} {reg:Int} {x:Ins} (ha:0 ≤ x.a.disp∧x.a.disp < 4294967296) (hb:0 ≤ x.b.disp∧x.b.disp < 4294967296):∀ {l:List UInt8} {s t:Tst},runT f reg x l s=some t→(∀ o,s.rm=some o→0 ≤ o.disp∧o.disp < 4294967296)→∀ o,t.rm=some o→0 ≤ o.disp∧o.disp < 4294967296
  | [],s,t,h,h0=>by cases h;exact h0
  | c :: l,s,t,h,h0=>by
    change (stepT f reg x s c).bind (runT f reg x l)=some t at h
    cases hs:stepT f reg x s c with
    | none=>rw [hs] at h;cases h
    | some u =>
      rw [hs] at h
      refine runT_rm ha hb (l:=l) (s:=u) h fun o ho=>?_
      unfold stepT at hs
      split at hs
      · cases hs;exact h0 o ho
      · split at hs
        · cases hs
        · cases hs
          dsimp only at ho
          split at ho
          · cases ho
            unfold plainO opT
            repeat' split
            all_goals first
              | exact ha
              | exact hb
          · exact h0 o ho
theorem low2_slc (w:World) (B:Nat) (hB:B=w.heap.size) (v:Int):Slc .u8 (w.alloc (.cells #[.int .u8 (v % 256),.int .u8 (v / 256 % 256)] 5)) (.slice (some ⟨B,0,none⟩) 2 2) (lowF v 2).length (lst (lowF v 2)):=by
  subst hB
  rw [low_len,low_2]
  exact slc_new w _ _ 2 2 _ (Nat.le_refl _) (fun i hi=>by
    rcases (show i=0 ∨ i=1 by omega) with rfl | rfl <;> rfl)
theorem runT_next {f:Frm} {reg:Int} {x:Ins} {m:Nat} {c:UInt8} {s:Tst} (hc:f.how[m]?=some c) (hr:runT f reg x (f.how.take m) ⟨0,none,[]⟩=some s):runT f reg x (f.how.take (m+1)) ⟨0,none,[]⟩=stepT f reg x s c:=by
  rw [List.take_add_one,hc]
  show runT f reg x (f.how.take m ++ [c]) _=_
  rw [runT_snoc,hr]
  rfl
theorem runT_stop {f:Frm} {reg:Int} {x:Ins} {c:UInt8} {s:Tst} {m:Nat} (hc:f.how[m]?=some c) (hr:runT f reg x (f.how.take m) ⟨0,none,[]⟩=some s) (hs:stepT f reg x s c=none):runT f reg x f.how ⟨0,none,[]⟩=none:=by
  have h1:=(runT_next hc hr).trans hs
  have happ:∀ (l k:List UInt8) (t:Tst),runT f reg x l t=none→runT f reg x (l ++ k) t=none:=fun l=>by
    induction l with
    | nil=>intro k t h;cases h
    | cons d l ih =>
      intro k t h
      change (stepT f reg x t d).bind (runT f reg x l)=none at h
      show (stepT f reg x t d).bind (runT f reg x (l ++ k))=none
      cases hd:stepT f reg x t d with
      | none=>rfl
      | some u=>rw [hd] at h;exact ih k u h
  have:=happ _ (f.how.drop (m+1)) _ h1
  rwa [List.take_append_drop] at this
theorem step_E {f:Frm} {reg:Int} {x:Ins} {s:Tst} {c:UInt8} {o:Opd} (hE:isEE c=true) (ho:opT x s.k=o):stepT f reg x s c=some ⟨s.k+1,some (plainO o),s.tl⟩:=by
  unfold isEE at hE
  simp only [Bool.or_eq_true,beq_iff_eq] at hE
  rcases hE with (rfl | rfl) | rfl <;> simp [stepT,isG,isEE,needF,low_0,ho]
theorem step_G1 {f:Frm} {reg:Int} {x:Ins} {s:Tst} {c:UInt8} {o:Opd} (hG:isG c=true) (ho:opT x s.k=o) (hr:o.reg ≠ reg):stepT f reg x s c=none:=by
  unfold isG at hG
  simp only [Bool.or_eq_true,beq_iff_eq] at hG
  rcases hG with (rfl | rfl) | rfl <;> simp [stepT,isG,ho,hr]
theorem step_G2 {f:Frm} {reg:Int} {x:Ins} {s:Tst} {c:UInt8} {o:Opd} (hG:isG c=true) (ho:opT x s.k=o) (hr:o.reg=reg):stepT f reg x s c=some ⟨s.k+1,s.rm,s.tl⟩:=by
  unfold isG at hG
  simp only [Bool.or_eq_true,beq_iff_eq] at hG
  rcases hG with (rfl | rfl) | rfl <;> simp [stepT,isG,isEE,needF,low_0,ho,hr]
theorem step_N {f:Frm} {reg:Int} {x:Ins} {s:Tst} {c:UInt8} {o:Opd} (n:Nat) (hLB:c ≠ 76∧c ≠ 66) (hE:isEE c=false) (hG:isG c=false) (ho:opT x s.k=o) (hn:needF f.size c=n):stepT f reg x s c=some ⟨s.k+1,s.rm,s.tl ++ lowF o.disp n⟩:=by
  unfold stepT
  rw [if_neg (fun h=>h.elim hLB.1 hLB.2),if_neg (by rw [hG];rintro ⟨h,_⟩;cases h),if_neg (by rw [hE];decide),ho,hn]
theorem step_0' {f:Frm} {reg:Int} {x:Ins} {s:Tst} {c:UInt8} {o:Opd} (hLB:c ≠ 76∧c ≠ 66) (hE:isEE c=false) (hG:isG c=false) (ho:opT x s.k=o) (hn:needF f.size c=0):stepT f reg x s c=some ⟨s.k+1,s.rm,s.tl⟩:=by
  rw [step_N 0 hLB hE hG ho hn,low_0,List.append_nil]
end
end Go.Proofs.YtlnahkkemjgjbaaGreat
