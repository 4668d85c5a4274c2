import Derived.Deep.DeepCutAuto
import Derived.Test.YtlnahkkemjgjbaaGreatKNM1
import Derived.Test.YtlnahkkemjgjbaaGreatKNM2
namespace Go.Proofs.YtlnahkkemjgjbaaGreat
open Go.ChangeShapes Go.WideShapes Go.ChangeAt Go.RowKit
theorem numS_opc (L:Nat) (bs:Nat→Int) (n:Nat) (s:RS):(numS L bs n s).2.opc=s.opc:=by
  unfold numS
  split
  · exact failS_opc s 21
  · rfl
theorem escS_opc (L:Nat) (bs:Nat→Int) (s:RS):(escS L bs s).2.opc=s.opc:=by
  unfold escS
  rw [numS_opc]
  split
  · exact numS_opc L bs 1 s
  · rw [failS_opc,numS_opc]
theorem rdS_opc (L:Nat) (bs:Nat→Int) (s:RS):(rdS L bs s).opc=s.opc:=by
  unfold rdS
  split
  · rfl
  · split
    · exact failS_opc s 21
    · rfl
theorem partS_opc (L:Nat) (bs:Nat→Int) (p:Prt) (size:Int) (s:RS):(partS L bs p size s).2.opc=s.opc:=by
  cases p
  case memory =>
    show (if _ then rdS L bs s else failS (rdS L bs s) 22).opc=_
    split
    · exact rdS_opc L bs s
    · rw [failS_opc,rdS_opc]
  all_goals first | exact rdS_opc L bs s | exact numS_opc L bs _ s | rfl
theorem operS_opc (L:Nat) (bs:Nat→Int) (p:Option Prt) (size:Int) (s:RS):(operS L bs p size s).2.opc=s.opc:=by
  cases p with
  | none=>rfl
  | some p=>exact partS_opc L bs p size s
theorem formS_opc (L:Nat) (bs:Nat→Int) (hb:∀ i,0 ≤ bs i∧bs i < 256) (s:RS):0 ≤ (formS L bs s).2.opc∧(formS L bs s).2.opc < 256:=by
  have h:=numS_bd L bs hb 1 s
  have e:(formS L bs s).2.opc=(numS L bs 1 s).1:=by
    unfold formS
    simp only
    split
    · exact numS_opc L bs 1 _
    · split
      · exact escS_opc L bs _
      · split
        · exact escS_opc L bs _
        · split
          · exact numS_opc L bs 1 _
          · split
            · exact memS_opc L bs _
            · rfl
  rw [e]
  exact h
theorem dform_any (w0:World) (L:Nat) (bs:Nat→Int) (hb:∀ i,0 ≤ bs i∧bs i < 256) (B:Nat) (s:RS) (u:World) (h:Rd w0 L bs B s u) :
    Calls Tryz.prog 23 #[.pointer (some ⟨B,0,none⟩)] u fun e w'=>e=.returned (lfV (formS L bs s).1)∧RTo w0 L bs B (formS L bs s).2 u w':=by
  by_cases n15:(numS L bs 1 s).1=15
  · exact dform_15 w0 L bs hb B s u h n15
  by_cases n102:(numS L bs 1 s).1=102
  · exact dform_102 w0 L bs hb B s u h n102
  by_cases n242:(numS L bs 1 s).1=242
  · exact dform_242 w0 L bs hb B s u h n242
  by_cases n243:(numS L bs 1 s).1=243
  · exact dform_243 w0 L bs hb B s u h n243
  by_cases n128:(numS L bs 1 s).1=128
  · exact dform_128 w0 L bs hb B s u h n128
  by_cases n129:(numS L bs 1 s).1=129
  · exact dform_129 w0 L bs hb B s u h n129
  by_cases n131:(numS L bs 1 s).1=131
  · exact dform_131 w0 L bs hb B s u h n131
  by_cases n143:(numS L bs 1 s).1=143
  · exact dform_143 w0 L bs hb B s u h n143
  by_cases n193:(numS L bs 1 s).1=193
  · exact dform_193 w0 L bs hb B s u h n193
  by_cases n198:(numS L bs 1 s).1=198
  · exact dform_198 w0 L bs hb B s u h n198
  by_cases n199:(numS L bs 1 s).1=199
  · exact dform_199 w0 L bs hb B s u h n199
  by_cases n209:(numS L bs 1 s).1=209
  · exact dform_209 w0 L bs hb B s u h n209
  by_cases n211:(numS L bs 1 s).1=211
  · exact dform_211 w0 L bs hb B s u h n211
  by_cases n246:(numS L bs 1 s).1=246
  · exact dform_246 w0 L bs hb B s u h n246
  by_cases n247:(numS L bs 1 s).1=247
  · exact dform_247 w0 L bs hb B s u h n247
  by_cases n254:(numS L bs 1 s).1=254
  · exact dform_254 w0 L bs hb B s u h n254
  by_cases n255:(numS L bs 1 s).1=255
  · exact dform_255 w0 L bs hb B s u h n255
  exact dform_none w0 L bs hb B s u h n15 n102 n242 n243 n128 n129 n131 n143 n193 n198 n199 n209 n211 n246 n247 n254 n255
theorem info_ins:(Tryz.prog.info? 26).map (·.size)=some 18:=by kernel_rfl
def insL (i:Ins):List Value:=[.int .i64 i.op,.int .i64 i.cond,.int .i64 i.size,.int .i64 i.a.kind,.int .i64 i.a.reg,.int .i64 i.a.base,.int .i64 i.a.index,.int .i64 i.a.scale,.int .u32 i.a.disp,.int .i64 i.b.kind,.int .i64 i.b.reg,.int .i64 i.b.base,.int .i64 i.b.index,.int .i64 i.b.scale,.int .u32 i.b.disp,.int .u32 i.c,.bool i.rep,.int .i64 i.len]
theorem lf_cells {f:LF} {R:Nat} {w:World} (h:w.rangeAt R 0 (lfL f)):w.cell? ⟨R,0,none⟩=some (.int .i64 f.op)∧w.cell? ⟨R,1,none⟩=some (.int .i64 f.cond)∧w.cell? ⟨R,2,none⟩=some (.int .i64 f.size)∧w.cell? ⟨R,3,none⟩=some (partO f.a)∧w.cell? ⟨R,4,none⟩=some (partO f.b)∧w.cell? ⟨R,5,none⟩=some (partO f.c)∧w.cell? ⟨R,6,none⟩=some (.bool f.rep) :=
  ⟨h 0 _ rfl,h 1 _ rfl,h 2 _ rfl,h 3 _ rfl,h 4 _ rfl,h 5 _ rfl,h 6 _ rfl⟩
def oneW (w:World) (v:Value):World:=(w.alloc (.cells #[.int .i64 0,.int .i64 0,.int .i64 0,.int .i64 0,.int .i64 0,.int .i64 0,.int .i64 0,.int .i64 0,.int .u32 0,.int .i64 0,.int .i64 0,.int .i64 0,.int .i64 0,.int .i64 0,.int .u32 0,.int .u32 0,.bool false,.int .i64 0] 26)).alloc (.cells #[v,.int .i64 0,.int .i64 0,.bool false,.int .i64 0,.int .i64 0,.int .i64 0,.int .i64 0,.int .i64 0,.int .u32 0,.int .i64 0] 66)
theorem oneW_rd {w:World} {v:Value} {L:Nat} {bs:Nat→Int} (hs:Slc .u8 w v L bs):Rd w L bs (w.heap.size+1) startS (oneW w v):=by
  refine ⟨by omega,below_last (below_last (Below.refl _ _) _) _,Nat.zero_le _,v,?_,?_⟩
  · show ((w.alloc _).heap.push _)[w.heap.size+1]?=_
    have e:(w.alloc (.cells #[.int .i64 0,.int .i64 0,.int .i64 0,.int .i64 0,.int .i64 0,.int .i64 0,.int .i64 0,.int .i64 0,.int .u32 0,.int .i64 0,.int .i64 0,.int .i64 0,.int .i64 0,.int .i64 0,.int .u32 0,.int .u32 0,.bool false,.int .i64 0] 26)).heap.size=w.heap.size+1:=by simp
    rw [← e,Array.getElem?_push,if_pos rfl]
    rfl
  · show Slc .u8 w v (L - 0) (fun i=>bs (0+i))
    rw [Nat.sub_zero]
    exact hs.congr (fun i _=>by rw [Nat.zero_add])
theorem oneW_size (w:World) (v:Value):(oneW w v).heap.size=w.heap.size+2:=by unfold oneW;simp
theorem oneW_there (w:World) (v:Value):(oneW w v).there w.heap.size 0 18:=there_alloc _ (by simp) (there_alloc_new w _ _ _ (by decide))
theorem field_disp (c:Opd) (W:World):(Instr.field 24 (.agg #[.int .i64 c.kind,.int .i64 c.reg,.int .i64 c.base,.int .i64 c.index,.int .i64 c.scale,.int .u32 c.disp]) 5).run Tryz.prog W=.ok (.int .u32 c.disp) W:=by kernel_rfl
theorem heap_top0 (w:World) (o:Obj) (B:Nat) (h:B=w.heap.size):(w.alloc o).heap[B]?=some o:=by subst h;show (w.heap.push o)[w.heap.size]?=_;simp
theorem range_alloc {w:World} {R o:Nat} {cs:List Value} (x:Obj) (hr:w.rangeAt R o cs) (hR:R < w.heap.size):(w.alloc x).rangeAt R o cs:=fun j v hv=>(World.cell?_alloc_lt w x ⟨R,o+j,none⟩ hR).trans (hr j v hv)
theorem opd_one (o:Opd):(opL' o).toArray.all (·.oneCell')=true:=by simp [opL',Value.oneCell']
theorem store_mid {P:Program} {ops:Array Oper} {rest:List Oper} {op:Oper} {a:Act} {w:World} {Q:Exit→Act→World→Prop} (hgd:op.guard=none) (T:TypeId) (x y:Operand) (ho:op.op=.store T x y)
    (R o:Nat) (hx:a.eval x=.pointer (some ⟨R,o,none⟩)) (C:List Value) (hy:a.eval y=.agg C.toArray) (hi:(P.info? T).map (·.size)=some C.length) (h1:C.toArray.all (·.oneCell')=true) (ht:w.there R o C.length)
    (hK:∀ Y,Y=w.setCells R o C→wpList P ops Q rest (a.put op.dst undef) Y):wpList P ops Q (op :: rest) a w:=by
  refine wpList_store_mid hgd T x y ho R o C.toArray hx hy (by simpa using ht) (by simpa using hi) h1 ?_
  exact hK _ rfl
def EInv (w:World) (L:Nat) (bs:Nat→Int) (B:Nat) (t:RS) (v:World):Prop:=Rd w L bs B t v∧v.there w.heap.size 0 18
theorem Rd.cells {w0:World} {L:Nat} {bs:Nat→Int} {B:Nat} {s:RS} {u:World} (h:Rd w0 L bs B s u) {R:Nat} (hR:w0.heap.size ≤ R) (hB:R ≠ B) (vs:List Value) (o:Nat):Rd w0 L bs B s (u.setCells R o vs):=by
  induction vs generalizing u o with
  | nil=>exact h
  | cons v vs ih=>exact ih (h.cell R o v hR hB) (o+1)
def EG (R:Nat) (v v':World):Prop:=v.rangeAt R 0 (insL zeroI)→v'.rangeAt R 0 (insL zeroI)
theorem eg_refl {R:Nat} (v:World):EG R v v:=fun h=>h
def EV (R:Nat) (B:Nat) (t:RS):Nat→Value→World→Prop
  | 0,v,_=>v=.agg (insL zeroI).toArray
  | 1,v,_=>v=.pointer (some ⟨B,0,none⟩)
  | 2,v,_=>v=.pointer (some ⟨B,0,none⟩)
  | 3,v,_=>v=.pointer (some ⟨B,2,none⟩)
  | 4,v,_=>v=.int .i64 t.err
  | 5,_,w=>w.rangeAt R 0 (insL zeroI)
  | 6,v,_=>v=.int .i64 t.err
  | _,_,_=>True
theorem ev_stays {R B:Nat} {t:RS} (i:Nat) (v:Value) (a b:World) (h:EV R B t i v a) (g:EG R a b):EV R B t i v b:=by
  unfold EV at h ⊢
  split at h
  all_goals first
    | exact h
    | exact g h
set_option maxRecDepth 100000
set_option maxHeartbeats 4000000
theorem done_yes (v:Value) (L:Nat) (bs:Nat→Int) (hb:∀ i,0 ≤ bs i∧bs i < 256) (hL:L ≤ 1099511627776) (w:World) (hs:Slc .u8 w v L bs) (f:LF) (s:RS) (hfs:formS L bs startS=(f,s)) (hop:f.op ≠ 0) (a b c:Opd) (s1 s2 s3:RS) (hq1:operS L bs f.a f.size s=(a,s1)) (hq2:operS L bs f.b f.size s1=(b,s2)) (hq3:operS L bs f.c f.size s2=(c,s3)) (herr:s3.err=0) :
    Calls Tryz.prog 11 #[v] w fun e w'=>e=.returned (insR (landF L bs))∧Below w.heap.size w w':=by
  have HN:=dform_any w L bs hb _ _ _ (oneW_rd hs)
  have hso:=formS_opc L bs hb startS
  have hF:landF L bs=(⟨f.op,f.cond,f.size,a,b,c.disp,f.rep,s3.k⟩,0):=by
    unfold landF
    rw [hfs]
    simp only [if_neg hop]
    unfold finL
    simp only [hq1,hq2,hq3]
    rw [if_pos herr]
  have HFIN:=Lib.hid (show landF L bs=(⟨f.op,f.cond,f.size,a,b,c.disp,f.rep,s3.k⟩,0) from hF)
  clear hF
  rw [hfs] at HN hso
  replace hso:0 ≤ s.opc∧s.opc < 256:=hso
  have HN:Hid (Calls Tryz.prog 23 #[.pointer (some ⟨w.heap.size+1,0,none⟩)] (oneW w v) fun e w'=>e=.returned (lfV f)∧RTo w L bs (w.heap.size+1) s (oneW w v) w'):=HN
  have ho0:0 ≤ (s).opc∧(s).opc < 256:=hso
  have ho1:0 ≤ s1.opc∧s1.opc < 256:=by have:=operS_opc L bs f.a f.size (s);rw [hq1] at this;rw [show s1.opc=_ from this];exact ho0
  have ho2:0 ≤ s2.opc∧s2.opc < 256:=by have:=operS_opc L bs f.b f.size s1;rw [hq2] at this;rw [show s2.opc=_ from this];exact ho1
  have C1:=fun (W:World) (hW:Rd w L bs (w.heap.size+1) (s) W)=>doperand_any w L bs hb hL (w.heap.size+1) _ ho0 f.a f.size W hW
  rw [hq1] at C1
  have C1:=Lib.hid C1
  have C2:=fun (W:World) (hW:Rd w L bs (w.heap.size+1) s1 W)=>doperand_any w L bs hb hL (w.heap.size+1) s1 ho1 f.b f.size W hW
  rw [hq2] at C2
  have C2:=Lib.hid C2
  have C3:=fun (W:World) (hW:Rd w L bs (w.heap.size+1) s2 W)=>doperand_any w L bs hb hL (w.heap.size+1) s2 ho2 f.c f.size W hW
  rw [hq3] at C3
  have C3:Hid (∀ W,Rd w L bs (w.heap.size+1) s2 W→Calls Tryz.prog 25 #[.pointer (some ⟨w.heap.size+1,0,none⟩),partO f.c,.int .i64 f.size] W fun e w'=>e=.returned (.agg #[.int .i64 c.kind,.int .i64 c.reg,.int .i64 c.base,.int .i64 c.index,.int .i64 c.scale,.int .u32 c.disp])∧RTo w L bs (w.heap.size+1) s3 W w'):=C3
  obtain ⟨va,vc,rfl⟩:=hs.len
  have e0:(f.op == 0)=false:=by simpa using hop
  have ee:(s3.err != 0)=false:=by simpa using herr
  have hL2:(L:Int) ≤ 1099511627776:=by omega
  generalize landF L bs=LF0 at *
  clear hs hb hop hso hfs hq1 hq2 hq3 herr ho0 ho1 ho2
  have hfd:=field_disp c
  go_enter Tryz.func11,Tryz.ntmps11
  go_wp2_with fail
  refine HN.out.mono ?_
  rintro e w1 ⟨rfl,h1⟩
  have hB1:w.heap.size+1 < w1.heap.size:=h1.rd.lt
  have hB0:w.heap.size+1 < (oneW w (.slice va L vc)).heap.size:=by rw [oneW_size];omega
  have hB2:(oneW w (.slice va L vc)).heap.size ≤ w1.heap.size:=h1.but.size
  have hr1:w1.there w.heap.size 0 18:=there_but h1.but (by omega) (by unfold oneW;simp;omega) (oneW_there w _)
  have HA:=Lib.hid (h1.alloc (.cells #[.int .i64 0,.int .i64 0,.int .i64 0,.nilFunc,.nilFunc,.nilFunc,.bool false] 70))
  have HRR:=Lib.hid (there_alloc (.cells #[.int .i64 0,.int .i64 0,.int .i64 0,.nilFunc,.nilFunc,.nilFunc,.bool false] 70) (by omega) hr1)
  have HTT:=Lib.hid (there_alloc_new w1 #[.int .i64 0,.int .i64 0,.int .i64 0,.nilFunc,.nilFunc,.nilFunc,.bool false] 70 7 (by decide))
  clear h1 hr1 HN
  go_wp2_with (refine store_lf rfl (.tmp 5) (.tmp 11) rfl w1.heap.size rfl f rfl HTT.out ?_;intro Y hY hl;clear hl;have hfW:=World.rangeAt_setCells_same _ w1.heap.size 0 (lfL f) HTT.out;rw [← hY] at hfW;have HRW:=Lib.hid (show Y.there w.heap.size 0 18 by rw [hY];exact World.there_setCells HRR.out _ _ _);have HA2:=Lib.hid (show RTo w L bs (w.heap.size+1) s (oneW w (.slice va L vc)) Y by rw [hY];exact HA.out.cells hB2 hB0 _ _);obtain ⟨y0,y1,y2,y3,y4,y5,y6⟩:=lf_cells hfW;have hYs:w1.heap.size < Y.heap.size:=cell_lt y0;clear hY;have HFW:=Lib.hid hfW;clear hfW)
  have hfW:=HFW.out
  have hne1:Y.heap.size ≠ w.heap.size+1:=by omega
  have hne2:w1.heap.size ≠ w.heap.size+1:=by omega
  have hne3:w.heap.size ≠ w.heap.size+1:=by omega
  have hne4:w.heap.size+1 ≠ Y.heap.size:=fun e=>hne1 e.symm
  have hiW:(Y.alloc (.cells #[.int .i64 f.op,.int .i64 f.cond,.int .i64 f.size,.int .i64 0,.int .i64 0,.int .i64 0,.int .i64 0,.int .i64 0,.int .u32 0,.int .i64 0,.int .i64 0,.int .i64 0,.int .i64 0,.int .i64 0,.int .u32 0,.int .u32 0,.bool f.rep,.int .i64 0] 26)).heap[Y.heap.size]?=some (.cells #[.int .i64 f.op,.int .i64 f.cond,.int .i64 f.size,.int .i64 0,.int .i64 0,.int .i64 0,.int .i64 0,.int .i64 0,.int .u32 0,.int .i64 0,.int .i64 0,.int .i64 0,.int .i64 0,.int .i64 0,.int .u32 0,.int .u32 0,.bool f.rep,.int .i64 0] 26 (0,0)):=heap_top0 _ _ _ rfl
  refine (C1.out _ (HA2.out.rd.alloc _)).mono ?_
  rintro e X1 ⟨rfl,g1⟩
  have hi1:=(g1.but.block _ (by simp) hne1).trans hiW
  have hf1:=range_but g1.but hne2 (range_alloc (.cells #[.int .i64 f.op,.int .i64 f.cond,.int .i64 f.size,.int .i64 0,.int .i64 0,.int .i64 0,.int .i64 0,.int .i64 0,.int .u32 0,.int .i64 0,.int .i64 0,.int .i64 0,.int .i64 0,.int .i64 0,.int .u32 0,.int .u32 0,.bool f.rep,.int .i64 0] 26) hfW (by omega))
  have hr1:=there_but g1.but hne3 (by simp;omega) (there_alloc (.cells #[.int .i64 f.op,.int .i64 f.cond,.int .i64 f.size,.int .i64 0,.int .i64 0,.int .i64 0,.int .i64 0,.int .i64 0,.int .u32 0,.int .i64 0,.int .i64 0,.int .i64 0,.int .i64 0,.int .i64 0,.int .u32 0,.int .u32 0,.bool f.rep,.int .i64 0] 26) (by omega) HRW.out)
  have ht1:=(HA2.out.alloc _).trans g1
  have HT1:=Lib.hid (there_block hi1 3 6 (by show 3+6 ≤ 18;decide))
  have HI1:=Lib.hid hi1
  have HF1:=Lib.hid hf1
  have HR1:=Lib.hid hr1
  have HA1:=Lib.hid ht1
  have hs1:Y.heap.size < X1.heap.size:=(Array.getElem?_eq_some_iff.1 hi1).1
  clear g1 hiW hi1 hf1 hr1 ht1 hfW
  go_wp2_with (refine store_mid rfl 24 (.tmp 32) (.tmp 31) rfl Y.heap.size 3 rfl (opL' a) rfl info_opd1 (opd_one a) HT1.out ?_;intro Z1 hZ1;have hi2:Z1.heap[Y.heap.size]?=some (.cells #[.int .i64 f.op,.int .i64 f.cond,.int .i64 f.size,.int .i64 a.kind,.int .i64 a.reg,.int .i64 a.base,.int .i64 a.index,.int .i64 a.scale,.int .u32 a.disp,.int .i64 0,.int .i64 0,.int .i64 0,.int .i64 0,.int .i64 0,.int .u32 0,.int .u32 0,.bool f.rep,.int .i64 0] 26 (0,0)):=(by rw [hZ1,block_setCells _ 3 _ _ HI1.out];unfold opL';rw [setL_3]);have hf2:Z1.rangeAt w1.heap.size 0 (lfL f):=(by rw [hZ1];exact World.rangeAt_setCells_apart HF1.out _ 3 _ (.inl (by omega)));have HR2:=Lib.hid (show Z1.there w.heap.size 0 18 by rw [hZ1];exact World.there_setCells HR1.out _ _ _);have HA3:=Lib.hid (show RTo w L bs (w.heap.size+1) s1 (oneW w (.slice va L vc)) Z1 by rw [hZ1];exact HA1.out.cells (by omega) hB0 _ _);obtain ⟨y0,y1,y2,y3,y4,y5,y6⟩:=lf_cells hf2;have hs2:Y.heap.size < Z1.heap.size:=(Array.getElem?_eq_some_iff.1 hi2).1;have HI2:=Lib.hid hi2;have HF2:=Lib.hid hf2;clear hZ1 hi2 hf2)
  refine (C2.out _ HA3.out.rd).mono ?_
  rintro e X2 ⟨rfl,g2⟩
  have hi3:=(g2.but.block _ hs2 hne1).trans HI2.out
  have HF3:=Lib.hid (range_but g2.but hne2 HF2.out)
  have HR3:=Lib.hid (there_but g2.but hne3 (by omega) HR2.out)
  have HA4:=Lib.hid (HA3.out.trans g2)
  have HT2:=Lib.hid (there_block hi3 9 6 (by show 9+6 ≤ 18;decide))
  have hs3:Y.heap.size < X2.heap.size:=(Array.getElem?_eq_some_iff.1 hi3).1
  have HI3:=Lib.hid hi3
  clear g2 hi3
  go_wp2_with (refine store_mid rfl 24 (.tmp 39) (.tmp 38) rfl Y.heap.size 9 rfl (opL' b) rfl info_opd1 (opd_one b) HT2.out ?_;intro Z2 hZ2;have hi4:Z2.heap[Y.heap.size]?=some (.cells #[.int .i64 f.op,.int .i64 f.cond,.int .i64 f.size,.int .i64 a.kind,.int .i64 a.reg,.int .i64 a.base,.int .i64 a.index,.int .i64 a.scale,.int .u32 a.disp,.int .i64 b.kind,.int .i64 b.reg,.int .i64 b.base,.int .i64 b.index,.int .i64 b.scale,.int .u32 b.disp,.int .u32 0,.bool f.rep,.int .i64 0] 26 (0,0)):=(by rw [hZ2,block_setCells _ 9 _ _ HI3.out];unfold opL';rw [setL_9]);have hf4:Z2.rangeAt w1.heap.size 0 (lfL f):=(by rw [hZ2];exact World.rangeAt_setCells_apart HF3.out _ 9 _ (.inl (by omega)));have HR4:=Lib.hid (show Z2.there w.heap.size 0 18 by rw [hZ2];exact World.there_setCells HR3.out _ _ _);have HA5:=Lib.hid (show RTo w L bs (w.heap.size+1) s2 (oneW w (.slice va L vc)) Z2 by rw [hZ2];exact HA4.out.cells (by omega) hB0 _ _);obtain ⟨v0,v1,v2,v3,v4,v5,v6⟩:=lf_cells hf4;have hs4:Y.heap.size < Z2.heap.size:=(Array.getElem?_eq_some_iff.1 hi4).1;have HI4:=Lib.hid hi4;clear hZ2 hi4 hf4)
  refine (C3.out _ HA5.out.rd).mono ?_
  rintro e X3 ⟨rfl,g3⟩
  have hi5:=(g3.but.block _ hs4 hne1).trans HI4.out
  have hr5:=there_but g3.but hne3 (by omega) HR4.out
  have ht5:=HA5.out.trans g3
  obtain ⟨rv,hRB,hrs⟩:=ht5.rd.at_
  obtain ⟨ra,rc,rfl⟩:=hrs.len
  have hle3:=ht5.rd.le
  obtain ⟨r0,_,r2,_⟩:=hRB.cells
  have q2:=hRB.froz 2
  have x15:=(cell_block hi5 15).1
  have f15:=(cell_block hi5 15).2
  have x17:=(cell_block hi5 17).1
  have f17:=(cell_block hi5 17).2
  simp only [List.getElem?_toArray,List.getElem?_cons_succ,List.getElem?_cons_zero] at x15 x17
  obtain ⟨M,hM⟩:∃ M,L - s3.k=M:=⟨_,rfl⟩
  rw [hM] at r0
  have hML:M ≤ L:=by omega
  have HKM:=Lib.hid (show (L:Int) - (M:Int)=(s3.k:Int) by omega)
  have hbX:=block_setCell (block_setCell hi5 15 (.int .u32 c.disp)) 17 (.int .i64 ((L:Int) - (M:Int)))
  have htX:=(ht5.cell Y.heap.size 15 (.int .u32 c.disp) (by omega) hB0).cell Y.heap.size 17 (.int .i64 ((L:Int) - (M:Int))) (by omega) hB0
  have hrX:((X3.setCell ⟨Y.heap.size,15,none⟩ (.int .u32 c.disp)).setCell ⟨Y.heap.size,17,none⟩ (.int .i64 ((L:Int) - (M:Int)))).there w.heap.size 0 18:=World.there_setCells (World.there_setCells hr5 Y.heap.size 15 [.int .u32 c.disp]) Y.heap.size 17 [.int .i64 ((L:Int) - (M:Int))]
  have HRX:=Lib.hid (show ((X3.setCell ⟨Y.heap.size,15,none⟩ (.int .u32 c.disp)).setCell ⟨Y.heap.size,17,none⟩ (.int .i64 ((L:Int) - (M:Int)))).rangeAt Y.heap.size 0 [.int .i64 f.op,.int .i64 f.cond,.int .i64 f.size,.int .i64 a.kind,.int .i64 a.reg,.int .i64 a.base,.int .i64 a.index,.int .i64 a.scale,.int .u32 a.disp,.int .i64 b.kind,.int .i64 b.reg,.int .i64 b.base,.int .i64 b.index,.int .i64 b.scale,.int .u32 b.disp,.int .u32 c.disp,.bool f.rep,.int .i64 ((L:Int) - (M:Int))] from range_block hbX)
  have HTX:=Lib.hid hrX
  have HAX:=Lib.hid htX
  clear g3 hi5 hr5 ht5 hRB hrs hle3 hM hbX htX hrX
  go_wp2_with (first
    | (refine wpList_load_mid rfl 26 (.tmp 6) rfl Y.heap.size 0 rfl [.int .i64 f.op,.int .i64 f.cond,.int .i64 f.size,.int .i64 a.kind,.int .i64 a.reg,.int .i64 a.base,.int .i64 a.index,.int .i64 a.scale,.int .u32 a.disp,.int .i64 b.kind,.int .i64 b.reg,.int .i64 b.base,.int .i64 b.index,.int .i64 b.scale,.int .u32 b.disp,.int .u32 c.disp,.bool f.rep,.int .i64 ((L:Int) - (M:Int))] _ HRX.out Tryz.underlying26 rfl info_ins ?_)
    | (refine store_row rfl 26 (.tmp 2) (.tmp 67) rfl w.heap.size rfl [.int .i64 f.op,.int .i64 f.cond,.int .i64 f.size,.int .i64 a.kind,.int .i64 a.reg,.int .i64 a.base,.int .i64 a.index,.int .i64 a.scale,.int .u32 a.disp,.int .i64 b.kind,.int .i64 b.reg,.int .i64 b.base,.int .i64 b.index,.int .i64 b.scale,.int .u32 b.disp,.int .u32 c.disp,.bool f.rep,.int .i64 ((L:Int) - (M:Int))] rfl _ Tryz.underlying26 rfl info_ins (by simp [Value.oneCell']) HTX.out ?_;intro V hV hl;have HV:=Lib.hid hV;have HL:=Lib.hid hl;clear hV hl))
  refine bodyPost_ret (results_cell_tmp rfl rfl rfl HL.out) rfl ⟨?_,?_⟩
  · rw [HFIN.out,← HKM.out];rfl
  · rw [HV.out]
    exact below_setCells (Nat.le_refl _) _ _ _ HAX.out.rd.below
theorem done_err (v:Value) (L:Nat) (bs:Nat→Int) (hb:∀ i,0 ≤ bs i∧bs i < 256) (hL:L ≤ 1099511627776) (w:World) (hs:Slc .u8 w v L bs) (f:LF) (s:RS) (hfs:formS L bs startS=(f,s)) (hop:f.op ≠ 0) (a b c:Opd) (s1 s2 s3:RS) (hq1:operS L bs f.a f.size s=(a,s1)) (hq2:operS L bs f.b f.size s1=(b,s2)) (hq3:operS L bs f.c f.size s2=(c,s3)) (herr:s3.err ≠ 0) :
    Calls Tryz.prog 11 #[v] w fun e w'=>e=.returned (insR (landF L bs))∧Below w.heap.size w w':=by
  have HN:=dform_any w L bs hb _ _ _ (oneW_rd hs)
  have hso:=formS_opc L bs hb startS
  have hF:landF L bs=(zeroI,s3.err):=by
    unfold landF
    rw [hfs]
    simp only [if_neg hop]
    unfold finL
    simp only [hq1,hq2,hq3]
    rw [if_neg herr]
  have HFIN:=Lib.hid (show landF L bs=(zeroI,s3.err) from hF)
  clear hF
  rw [hfs] at HN hso
  replace hso:0 ≤ s.opc∧s.opc < 256:=hso
  have HN:Hid (Calls Tryz.prog 23 #[.pointer (some ⟨w.heap.size+1,0,none⟩)] (oneW w v) fun e w'=>e=.returned (lfV f)∧RTo w L bs (w.heap.size+1) s (oneW w v) w'):=HN
  have ho0:0 ≤ (s).opc∧(s).opc < 256:=hso
  have ho1:0 ≤ s1.opc∧s1.opc < 256:=by have:=operS_opc L bs f.a f.size (s);rw [hq1] at this;rw [show s1.opc=_ from this];exact ho0
  have ho2:0 ≤ s2.opc∧s2.opc < 256:=by have:=operS_opc L bs f.b f.size s1;rw [hq2] at this;rw [show s2.opc=_ from this];exact ho1
  have C1:=fun (W:World) (hW:Rd w L bs (w.heap.size+1) (s) W)=>doperand_any w L bs hb hL (w.heap.size+1) _ ho0 f.a f.size W hW
  rw [hq1] at C1
  have C1:=Lib.hid C1
  have C2:=fun (W:World) (hW:Rd w L bs (w.heap.size+1) s1 W)=>doperand_any w L bs hb hL (w.heap.size+1) s1 ho1 f.b f.size W hW
  rw [hq2] at C2
  have C2:=Lib.hid C2
  have C3:=fun (W:World) (hW:Rd w L bs (w.heap.size+1) s2 W)=>doperand_any w L bs hb hL (w.heap.size+1) s2 ho2 f.c f.size W hW
  rw [hq3] at C3
  have C3:Hid (∀ W,Rd w L bs (w.heap.size+1) s2 W→Calls Tryz.prog 25 #[.pointer (some ⟨w.heap.size+1,0,none⟩),partO f.c,.int .i64 f.size] W fun e w'=>e=.returned (.agg #[.int .i64 c.kind,.int .i64 c.reg,.int .i64 c.base,.int .i64 c.index,.int .i64 c.scale,.int .u32 c.disp])∧RTo w L bs (w.heap.size+1) s3 W w'):=C3
  obtain ⟨va,vc,rfl⟩:=hs.len
  have e0:(f.op == 0)=false:=by simpa using hop
  have ee:(s3.err != 0)=true:=by simpa using herr
  have hL2:(L:Int) ≤ 1099511627776:=by omega
  generalize landF L bs=LF0 at *
  clear hs hb hop hso hfs hq1 hq2 hq3 herr ho0 ho1 ho2
  have hfd:=field_disp c
  go_enter Tryz.func11,Tryz.ntmps11
  go_wp2_with fail
  refine HN.out.mono ?_
  rintro e w1 ⟨rfl,h1⟩
  have hB1:w.heap.size+1 < w1.heap.size:=h1.rd.lt
  have hB0:w.heap.size+1 < (oneW w (.slice va L vc)).heap.size:=by rw [oneW_size];omega
  have hB2:(oneW w (.slice va L vc)).heap.size ≤ w1.heap.size:=h1.but.size
  have hr1:w1.there w.heap.size 0 18:=there_but h1.but (by omega) (by unfold oneW;simp;omega) (oneW_there w _)
  have HA:=Lib.hid (h1.alloc (.cells #[.int .i64 0,.int .i64 0,.int .i64 0,.nilFunc,.nilFunc,.nilFunc,.bool false] 70))
  have HRR:=Lib.hid (there_alloc (.cells #[.int .i64 0,.int .i64 0,.int .i64 0,.nilFunc,.nilFunc,.nilFunc,.bool false] 70) (by omega) hr1)
  have HTT:=Lib.hid (there_alloc_new w1 #[.int .i64 0,.int .i64 0,.int .i64 0,.nilFunc,.nilFunc,.nilFunc,.bool false] 70 7 (by decide))
  clear h1 hr1 HN
  go_wp2_with (refine store_lf rfl (.tmp 5) (.tmp 11) rfl w1.heap.size rfl f rfl HTT.out ?_;intro Y hY hl;clear hl;have hfW:=World.rangeAt_setCells_same _ w1.heap.size 0 (lfL f) HTT.out;rw [← hY] at hfW;have HRW:=Lib.hid (show Y.there w.heap.size 0 18 by rw [hY];exact World.there_setCells HRR.out _ _ _);have HA2:=Lib.hid (show RTo w L bs (w.heap.size+1) s (oneW w (.slice va L vc)) Y by rw [hY];exact HA.out.cells hB2 hB0 _ _);obtain ⟨y0,y1,y2,y3,y4,y5,y6⟩:=lf_cells hfW;have hYs:w1.heap.size < Y.heap.size:=cell_lt y0;clear hY;have HFW:=Lib.hid hfW;clear hfW)
  have hfW:=HFW.out
  have hne1:Y.heap.size ≠ w.heap.size+1:=by omega
  have hne2:w1.heap.size ≠ w.heap.size+1:=by omega
  have hne3:w.heap.size ≠ w.heap.size+1:=by omega
  have hne4:w.heap.size+1 ≠ Y.heap.size:=fun e=>hne1 e.symm
  have hiW:(Y.alloc (.cells #[.int .i64 f.op,.int .i64 f.cond,.int .i64 f.size,.int .i64 0,.int .i64 0,.int .i64 0,.int .i64 0,.int .i64 0,.int .u32 0,.int .i64 0,.int .i64 0,.int .i64 0,.int .i64 0,.int .i64 0,.int .u32 0,.int .u32 0,.bool f.rep,.int .i64 0] 26)).heap[Y.heap.size]?=some (.cells #[.int .i64 f.op,.int .i64 f.cond,.int .i64 f.size,.int .i64 0,.int .i64 0,.int .i64 0,.int .i64 0,.int .i64 0,.int .u32 0,.int .i64 0,.int .i64 0,.int .i64 0,.int .i64 0,.int .i64 0,.int .u32 0,.int .u32 0,.bool f.rep,.int .i64 0] 26 (0,0)):=heap_top0 _ _ _ rfl
  refine (C1.out _ (HA2.out.rd.alloc _)).mono ?_
  rintro e X1 ⟨rfl,g1⟩
  have hi1:=(g1.but.block _ (by simp) hne1).trans hiW
  have hf1:=range_but g1.but hne2 (range_alloc (.cells #[.int .i64 f.op,.int .i64 f.cond,.int .i64 f.size,.int .i64 0,.int .i64 0,.int .i64 0,.int .i64 0,.int .i64 0,.int .u32 0,.int .i64 0,.int .i64 0,.int .i64 0,.int .i64 0,.int .i64 0,.int .u32 0,.int .u32 0,.bool f.rep,.int .i64 0] 26) hfW (by omega))
  have hr1:=there_but g1.but hne3 (by simp;omega) (there_alloc (.cells #[.int .i64 f.op,.int .i64 f.cond,.int .i64 f.size,.int .i64 0,.int .i64 0,.int .i64 0,.int .i64 0,.int .i64 0,.int .u32 0,.int .i64 0,.int .i64 0,.int .i64 0,.int .i64 0,.int .i64 0,.int .u32 0,.int .u32 0,.bool f.rep,.int .i64 0] 26) (by omega) HRW.out)
  have ht1:=(HA2.out.alloc _).trans g1
  have HT1:=Lib.hid (there_block hi1 3 6 (by show 3+6 ≤ 18;decide))
  have HI1:=Lib.hid hi1
  have HF1:=Lib.hid hf1
  have HR1:=Lib.hid hr1
  have HA1:=Lib.hid ht1
  have hs1:Y.heap.size < X1.heap.size:=(Array.getElem?_eq_some_iff.1 hi1).1
  clear g1 hiW hi1 hf1 hr1 ht1 hfW
  go_wp2_with (refine store_mid rfl 24 (.tmp 32) (.tmp 31) rfl Y.heap.size 3 rfl (opL' a) rfl info_opd1 (opd_one a) HT1.out ?_;intro Z1 hZ1;have hi2:Z1.heap[Y.heap.size]?=some (.cells #[.int .i64 f.op,.int .i64 f.cond,.int .i64 f.size,.int .i64 a.kind,.int .i64 a.reg,.int .i64 a.base,.int .i64 a.index,.int .i64 a.scale,.int .u32 a.disp,.int .i64 0,.int .i64 0,.int .i64 0,.int .i64 0,.int .i64 0,.int .u32 0,.int .u32 0,.bool f.rep,.int .i64 0] 26 (0,0)):=(by rw [hZ1,block_setCells _ 3 _ _ HI1.out];unfold opL';rw [setL_3]);have hf2:Z1.rangeAt w1.heap.size 0 (lfL f):=(by rw [hZ1];exact World.rangeAt_setCells_apart HF1.out _ 3 _ (.inl (by omega)));have HR2:=Lib.hid (show Z1.there w.heap.size 0 18 by rw [hZ1];exact World.there_setCells HR1.out _ _ _);have HA3:=Lib.hid (show RTo w L bs (w.heap.size+1) s1 (oneW w (.slice va L vc)) Z1 by rw [hZ1];exact HA1.out.cells (by omega) hB0 _ _);obtain ⟨y0,y1,y2,y3,y4,y5,y6⟩:=lf_cells hf2;have hs2:Y.heap.size < Z1.heap.size:=(Array.getElem?_eq_some_iff.1 hi2).1;have HI2:=Lib.hid hi2;have HF2:=Lib.hid hf2;clear hZ1 hi2 hf2)
  refine (C2.out _ HA3.out.rd).mono ?_
  rintro e X2 ⟨rfl,g2⟩
  have hi3:=(g2.but.block _ hs2 hne1).trans HI2.out
  have HF3:=Lib.hid (range_but g2.but hne2 HF2.out)
  have HR3:=Lib.hid (there_but g2.but hne3 (by omega) HR2.out)
  have HA4:=Lib.hid (HA3.out.trans g2)
  have HT2:=Lib.hid (there_block hi3 9 6 (by show 9+6 ≤ 18;decide))
  have hs3:Y.heap.size < X2.heap.size:=(Array.getElem?_eq_some_iff.1 hi3).1
  have HI3:=Lib.hid hi3
  clear g2 hi3
  go_wp2_with (refine store_mid rfl 24 (.tmp 39) (.tmp 38) rfl Y.heap.size 9 rfl (opL' b) rfl info_opd1 (opd_one b) HT2.out ?_;intro Z2 hZ2;have hi4:Z2.heap[Y.heap.size]?=some (.cells #[.int .i64 f.op,.int .i64 f.cond,.int .i64 f.size,.int .i64 a.kind,.int .i64 a.reg,.int .i64 a.base,.int .i64 a.index,.int .i64 a.scale,.int .u32 a.disp,.int .i64 b.kind,.int .i64 b.reg,.int .i64 b.base,.int .i64 b.index,.int .i64 b.scale,.int .u32 b.disp,.int .u32 0,.bool f.rep,.int .i64 0] 26 (0,0)):=(by rw [hZ2,block_setCells _ 9 _ _ HI3.out];unfold opL';rw [setL_9]);have hf4:Z2.rangeAt w1.heap.size 0 (lfL f):=(by rw [hZ2];exact World.rangeAt_setCells_apart HF3.out _ 9 _ (.inl (by omega)));have HR4:=Lib.hid (show Z2.there w.heap.size 0 18 by rw [hZ2];exact World.there_setCells HR3.out _ _ _);have HA5:=Lib.hid (show RTo w L bs (w.heap.size+1) s2 (oneW w (.slice va L vc)) Z2 by rw [hZ2];exact HA4.out.cells (by omega) hB0 _ _);obtain ⟨v0,v1,v2,v3,v4,v5,v6⟩:=lf_cells hf4;have hs4:Y.heap.size < Z2.heap.size:=(Array.getElem?_eq_some_iff.1 hi4).1;have HI4:=Lib.hid hi4;clear hZ2 hi4 hf4)
  refine (C3.out _ HA5.out.rd).mono ?_
  rintro e X3 ⟨rfl,g3⟩
  have hi5:=(g3.but.block _ hs4 hne1).trans HI4.out
  have hr5:=there_but g3.but hne3 (by omega) HR4.out
  have ht5:=HA5.out.trans g3
  obtain ⟨rv,hRB,hrs⟩:=ht5.rd.at_
  obtain ⟨ra,rc,rfl⟩:=hrs.len
  have hle3:=ht5.rd.le
  obtain ⟨r0,_,r2,_⟩:=hRB.cells
  have q2:=hRB.froz 2
  have x15:=(cell_block hi5 15).1
  have f15:=(cell_block hi5 15).2
  have x17:=(cell_block hi5 17).1
  have f17:=(cell_block hi5 17).2
  simp only [List.getElem?_toArray,List.getElem?_cons_succ,List.getElem?_cons_zero] at x15 x17
  obtain ⟨M,hM⟩:∃ M,L - s3.k=M:=⟨_,rfl⟩
  rw [hM] at r0
  have hML:M ≤ L:=by omega
  have HKM:=Lib.hid (show (L:Int) - (M:Int)=(s3.k:Int) by omega)
  have hbX:=block_setCell (block_setCell hi5 15 (.int .u32 c.disp)) 17 (.int .i64 ((L:Int) - (M:Int)))
  have htX:=(ht5.cell Y.heap.size 15 (.int .u32 c.disp) (by omega) hB0).cell Y.heap.size 17 (.int .i64 ((L:Int) - (M:Int))) (by omega) hB0
  have hrX:((X3.setCell ⟨Y.heap.size,15,none⟩ (.int .u32 c.disp)).setCell ⟨Y.heap.size,17,none⟩ (.int .i64 ((L:Int) - (M:Int)))).there w.heap.size 0 18:=World.there_setCells (World.there_setCells hr5 Y.heap.size 15 [.int .u32 c.disp]) Y.heap.size 17 [.int .i64 ((L:Int) - (M:Int))]
  have HRX:=Lib.hid (show ((X3.setCell ⟨Y.heap.size,15,none⟩ (.int .u32 c.disp)).setCell ⟨Y.heap.size,17,none⟩ (.int .i64 ((L:Int) - (M:Int)))).rangeAt Y.heap.size 0 [.int .i64 f.op,.int .i64 f.cond,.int .i64 f.size,.int .i64 a.kind,.int .i64 a.reg,.int .i64 a.base,.int .i64 a.index,.int .i64 a.scale,.int .u32 a.disp,.int .i64 b.kind,.int .i64 b.reg,.int .i64 b.base,.int .i64 b.index,.int .i64 b.scale,.int .u32 b.disp,.int .u32 c.disp,.bool f.rep,.int .i64 ((L:Int) - (M:Int))] from range_block hbX)
  have HTX:=Lib.hid hrX
  have HAX:=Lib.hid htX
  clear g3 hi5 hr5 ht5 hRB hrs hle3 hM hbX htX hrX
  obtain ⟨V,hV⟩:∃ V,((X3.setCell ⟨Y.heap.size,15,none⟩ (.int .u32 c.disp)).setCell ⟨Y.heap.size,17,none⟩ (.int .i64 ((L:Int) - (M:Int))))=V:=⟨_,rfl⟩
  have HVX:=Lib.hid hV
  have htv:=HTX.out
  have hav:=HAX.out
  rw [hV] at htv hav
  have HTV:=Lib.hid htv
  have HAV:=Lib.hid hav
  clear hV htv hav
  go_upto_region 11 with (fail)
  rw [HVX.out]
  clear x15 x17 f15 f17 r0 r2 q2 y0 y1 y2 y3 y4 y5 y6 v0 v1 v2 v3 v4 v5 v6
  refine wp_region_vals (by kernel_rfl) (fun i=>i == 5) (by kernel_rfl) (EInv w L bs (w.heap.size+1) s3) (EG w.heap.size) (EV w.heap.size (w.heap.size+1) s3) ev_stays eg_refl ?_ ?_ ?_
  · exact ⟨HAV.out.rd.drew,HTV.out⟩
  · intro i o b' u1 ho hinv hsz hbase hdep
    have hi:i < 7:=(Array.getElem?_eq_some_iff.1 ho).1
    have b2:b'.tmps.getD 2 undef=.pointer (some ⟨w.heap.size,0,none⟩):=hbase 2 (by kernel_rfl)
    have b4:b'.tmps.getD 4 undef=.pointer (some ⟨w.heap.size+1,0,none⟩):=hbase 4 (by kernel_rfl)
    clear hbase hsz
    have h7:i=0 ∨ i=1 ∨ i=2 ∨ i=3 ∨ i=4 ∨ i=5 ∨ i=6:=by omega
    rcases h7 with rfl | rfl | rfl | rfl | rfl | rfl | rfl
    · cases ho
      exact wp_val (by simp [execOp,Act.eval,go_sem] <;> rfl) ⟨_,rfl,hinv,eg_refl _,rfl⟩
    · cases ho
      exact wp_val (by simp [execOp,Act.eval,b4] <;> rfl) ⟨_,rfl,hinv,eg_refl _,rfl⟩
    · cases ho
      have d1:b'.tmps.getD 63 undef=.pointer (some ⟨w.heap.size+1,0,none⟩):=hdep 1 (by kernel_rfl)
      exact wp_val (by simp [execOp,Act.eval,d1,go_sem] <;> rfl) ⟨_,rfl,hinv,eg_refl _,rfl⟩
    · cases ho
      have d2:b'.tmps.getD 64 undef=.pointer (some ⟨w.heap.size+1,0,none⟩):=hdep 2 (by kernel_rfl)
      exact wp_val (by simp [execOp,Act.eval,d2,go_sem] <;> rfl) ⟨_,rfl,hinv,eg_refl _,rfl⟩
    · cases ho
      have d3:b'.tmps.getD 65 undef=.pointer (some ⟨w.heap.size+1,2,none⟩):=hdep 3 (by kernel_rfl)
      obtain ⟨xv,hxB,_⟩:=hinv.1.at_
      have c2:=hxB.cells.2.2.1
      exact wp_val (by simp [execOp,Act.eval,d3,go_sem,c2] <;> rfl) ⟨_,rfl,hinv,eg_refl _,rfl⟩
    · cases ho
      have d0:b'.tmps.getD 62 undef=.agg (insL zeroI).toArray:=hdep 0 (by kernel_rfl)
      have hr:=World.rangeAt_setCells_same u1 w.heap.size 0 (insL zeroI) hinv.2
      refine wp_store_mid 26 (.tmp 2) (.tmp 62) rfl w.heap.size 0 (insL zeroI).toArray b2 d0 hinv.2 info_ins (by kernel_rfl) ⟨_,rfl,⟨hinv.1.cells (Nat.le_refl _) (by omega) _ _,World.there_setCells hinv.2 _ _ _⟩,fun _=>hr,hr⟩
    · cases ho
      have d4:b'.tmps.getD 66 undef=.int .i64 s3.err:=hdep 4 (by kernel_rfl)
      exact wp_val (by simp [execOp,Act.eval,d4] <;> rfl) ⟨_,rfl,hinv,eg_refl _,rfl⟩
  · intro ff u1 hinv hVV
    have h5:=hVV 5 (by decide)
    have h6:ff 6=.int .i64 s3.err:=hVV 6 (by decide)
    generalize hbb:laid _ ff _ _=b'
    have b2:b'.tmps.getD 2 undef=.pointer (some ⟨w.heap.size,0,none⟩):=by rw [← hbb];kernel_rfl
    have b3:b'.tmps.getD 3 undef=.int .i64 s3.err:=by rw [← hbb,← h6];kernel_rfl
    have bd:b'.defers=[]:=by rw [← hbb];kernel_rfl
    clear hbb
    have hl:=load_range (P:=Tryz.prog) (cs:=insL zeroI) 26 _ Tryz.underlying26 rfl info_ins h5
    have HL:=Lib.hid hl
    have HB5:=Lib.hid hinv.1.below
    clear h5 h6 hinv hVV hl
    go_wp2_with fail
    exact bodyPost_ret (results_cell_tmp rfl b2 b3 HL.out) bd ⟨by rw [HFIN.out];rfl,HB5.out⟩
theorem done_bad (v:Value) (L:Nat) (bs:Nat→Int) (hb:∀ i,0 ≤ bs i∧bs i < 256) (hL:L ≤ 1099511627776) (w:World) (hs:Slc .u8 w v L bs) (f:LF) (s:RS) (hfs:formS L bs startS=(f,s)) (hop:f.op=0) (a b c:Opd) (s1 s2 s3:RS) (hq1:operS L bs f.a f.size (failS s 22)=(a,s1)) (hq2:operS L bs f.b f.size s1=(b,s2)) (hq3:operS L bs f.c f.size s2=(c,s3)) (herr:s3.err ≠ 0) :
    Calls Tryz.prog 11 #[v] w fun e w'=>e=.returned (insR (landF L bs))∧Below w.heap.size w w':=by
  have HN:=dform_any w L bs hb _ _ _ (oneW_rd hs)
  have hso:=formS_opc L bs hb startS
  have hF:landF L bs=(zeroI,s3.err):=by
    unfold landF
    rw [hfs]
    simp only [if_pos hop]
    unfold finL
    simp only [hq1,hq2,hq3]
    rw [if_neg herr]
  have HFIN:=Lib.hid (show landF L bs=(zeroI,s3.err) from hF)
  clear hF
  rw [hfs] at HN hso
  replace hso:0 ≤ s.opc∧s.opc < 256:=hso
  have HN:Hid (Calls Tryz.prog 23 #[.pointer (some ⟨w.heap.size+1,0,none⟩)] (oneW w v) fun e w'=>e=.returned (lfV f)∧RTo w L bs (w.heap.size+1) s (oneW w v) w'):=HN
  have ho0:0 ≤ (failS s 22).opc∧(failS s 22).opc < 256:=by rw [failS_opc];exact hso
  have ho1:0 ≤ s1.opc∧s1.opc < 256:=by have:=operS_opc L bs f.a f.size (failS s 22);rw [hq1] at this;rw [show s1.opc=_ from this];exact ho0
  have ho2:0 ≤ s2.opc∧s2.opc < 256:=by have:=operS_opc L bs f.b f.size s1;rw [hq2] at this;rw [show s2.opc=_ from this];exact ho1
  have C1:=fun (W:World) (hW:Rd w L bs (w.heap.size+1) (failS s 22) W)=>doperand_any w L bs hb hL (w.heap.size+1) _ ho0 f.a f.size W hW
  rw [hq1] at C1
  have C1:=Lib.hid C1
  have C2:=fun (W:World) (hW:Rd w L bs (w.heap.size+1) s1 W)=>doperand_any w L bs hb hL (w.heap.size+1) s1 ho1 f.b f.size W hW
  rw [hq2] at C2
  have C2:=Lib.hid C2
  have C3:=fun (W:World) (hW:Rd w L bs (w.heap.size+1) s2 W)=>doperand_any w L bs hb hL (w.heap.size+1) s2 ho2 f.c f.size W hW
  rw [hq3] at C3
  have C3:Hid (∀ W,Rd w L bs (w.heap.size+1) s2 W→Calls Tryz.prog 25 #[.pointer (some ⟨w.heap.size+1,0,none⟩),partO f.c,.int .i64 f.size] W fun e w'=>e=.returned (.agg #[.int .i64 c.kind,.int .i64 c.reg,.int .i64 c.base,.int .i64 c.index,.int .i64 c.scale,.int .u32 c.disp])∧RTo w L bs (w.heap.size+1) s3 W w'):=C3
  obtain ⟨va,vc,rfl⟩:=hs.len
  have e0:(f.op == 0)=true:=by simpa using hop
  have ee:(s3.err != 0)=true:=by simpa using herr
  have hL2:(L:Int) ≤ 1099511627776:=by omega
  generalize landF L bs=LF0 at *
  clear hs hb hop hso hfs hq1 hq2 hq3 herr ho0 ho1 ho2
  have hfd:=field_disp c
  go_enter Tryz.func11,Tryz.ntmps11
  go_wp2_with fail
  refine HN.out.mono ?_
  rintro e w1 ⟨rfl,h1⟩
  have hB1:w.heap.size+1 < w1.heap.size:=h1.rd.lt
  have hB0:w.heap.size+1 < (oneW w (.slice va L vc)).heap.size:=by rw [oneW_size];omega
  have hB2:(oneW w (.slice va L vc)).heap.size ≤ w1.heap.size:=h1.but.size
  have hr1:w1.there w.heap.size 0 18:=there_but h1.but (by omega) (by unfold oneW;simp;omega) (oneW_there w _)
  have HA:=Lib.hid (h1.alloc (.cells #[.int .i64 0,.int .i64 0,.int .i64 0,.nilFunc,.nilFunc,.nilFunc,.bool false] 70))
  have HRR:=Lib.hid (there_alloc (.cells #[.int .i64 0,.int .i64 0,.int .i64 0,.nilFunc,.nilFunc,.nilFunc,.bool false] 70) (by omega) hr1)
  have HTT:=Lib.hid (there_alloc_new w1 #[.int .i64 0,.int .i64 0,.int .i64 0,.nilFunc,.nilFunc,.nilFunc,.bool false] 70 7 (by decide))
  clear h1 hr1 HN
  go_wp2_with (refine store_lf rfl (.tmp 5) (.tmp 11) rfl w1.heap.size rfl f rfl HTT.out ?_;intro Y hY hl;clear hl;have hfW:=World.rangeAt_setCells_same _ w1.heap.size 0 (lfL f) HTT.out;rw [← hY] at hfW;have HRW:=Lib.hid (show Y.there w.heap.size 0 18 by rw [hY];exact World.there_setCells HRR.out _ _ _);have HA2:=Lib.hid (show RTo w L bs (w.heap.size+1) s (oneW w (.slice va L vc)) Y by rw [hY];exact HA.out.cells hB2 hB0 _ _);obtain ⟨y0,y1,y2,y3,y4,y5,y6⟩:=lf_cells hfW;have hYs:w1.heap.size < Y.heap.size:=cell_lt y0;clear hY;have HFW:=Lib.hid hfW;clear hfW)
  refine (dfail_any 22 w L bs (w.heap.size+1) s Y HA2.out.rd).mono ?_
  rintro e w2 ⟨rfl,h2⟩
  have hfW:=range_but h2.but (by omega) HFW.out
  have HRW2:=Lib.hid (there_but h2.but (by omega) (by omega) HRW.out)
  have HA22:=Lib.hid (HA2.out.trans h2)
  clear HRW HA2 y0 y1 y2 y3 y4 y5 y6
  have HRW:=HRW2
  have HA2:=HA22
  clear HRW2 HA22
  obtain ⟨y0,y1,y2,y3,y4,y5,y6⟩:=lf_cells hfW
  have hw2:w1.heap.size < w2.heap.size:=cell_lt y0
  have HFW2:=Lib.hid hfW
  clear h2 hfW
  go_wp2_with fail
  have hfW:=HFW2.out
  have hne1:w2.heap.size ≠ w.heap.size+1:=by omega
  have hne2:w1.heap.size ≠ w.heap.size+1:=by omega
  have hne3:w.heap.size ≠ w.heap.size+1:=by omega
  have hne4:w.heap.size+1 ≠ w2.heap.size:=fun e=>hne1 e.symm
  have hiW:(w2.alloc (.cells #[.int .i64 f.op,.int .i64 f.cond,.int .i64 f.size,.int .i64 0,.int .i64 0,.int .i64 0,.int .i64 0,.int .i64 0,.int .u32 0,.int .i64 0,.int .i64 0,.int .i64 0,.int .i64 0,.int .i64 0,.int .u32 0,.int .u32 0,.bool f.rep,.int .i64 0] 26)).heap[w2.heap.size]?=some (.cells #[.int .i64 f.op,.int .i64 f.cond,.int .i64 f.size,.int .i64 0,.int .i64 0,.int .i64 0,.int .i64 0,.int .i64 0,.int .u32 0,.int .i64 0,.int .i64 0,.int .i64 0,.int .i64 0,.int .i64 0,.int .u32 0,.int .u32 0,.bool f.rep,.int .i64 0] 26 (0,0)):=heap_top0 _ _ _ rfl
  refine (C1.out _ (HA2.out.rd.alloc _)).mono ?_
  rintro e X1 ⟨rfl,g1⟩
  have hi1:=(g1.but.block _ (by simp) hne1).trans hiW
  have hf1:=range_but g1.but hne2 (range_alloc (.cells #[.int .i64 f.op,.int .i64 f.cond,.int .i64 f.size,.int .i64 0,.int .i64 0,.int .i64 0,.int .i64 0,.int .i64 0,.int .u32 0,.int .i64 0,.int .i64 0,.int .i64 0,.int .i64 0,.int .i64 0,.int .u32 0,.int .u32 0,.bool f.rep,.int .i64 0] 26) hfW (by omega))
  have hr1:=there_but g1.but hne3 (by simp;omega) (there_alloc (.cells #[.int .i64 f.op,.int .i64 f.cond,.int .i64 f.size,.int .i64 0,.int .i64 0,.int .i64 0,.int .i64 0,.int .i64 0,.int .u32 0,.int .i64 0,.int .i64 0,.int .i64 0,.int .i64 0,.int .i64 0,.int .u32 0,.int .u32 0,.bool f.rep,.int .i64 0] 26) (by omega) HRW.out)
  have ht1:=(HA2.out.alloc _).trans g1
  have HT1:=Lib.hid (there_block hi1 3 6 (by show 3+6 ≤ 18;decide))
  have HI1:=Lib.hid hi1
  have HF1:=Lib.hid hf1
  have HR1:=Lib.hid hr1
  have HA1:=Lib.hid ht1
  have hs1:w2.heap.size < X1.heap.size:=(Array.getElem?_eq_some_iff.1 hi1).1
  clear g1 hiW hi1 hf1 hr1 ht1 hfW
  go_wp2_with (refine store_mid rfl 24 (.tmp 32) (.tmp 31) rfl w2.heap.size 3 rfl (opL' a) rfl info_opd1 (opd_one a) HT1.out ?_;intro Z1 hZ1;have hi2:Z1.heap[w2.heap.size]?=some (.cells #[.int .i64 f.op,.int .i64 f.cond,.int .i64 f.size,.int .i64 a.kind,.int .i64 a.reg,.int .i64 a.base,.int .i64 a.index,.int .i64 a.scale,.int .u32 a.disp,.int .i64 0,.int .i64 0,.int .i64 0,.int .i64 0,.int .i64 0,.int .u32 0,.int .u32 0,.bool f.rep,.int .i64 0] 26 (0,0)):=(by rw [hZ1,block_setCells _ 3 _ _ HI1.out];unfold opL';rw [setL_3]);have hf2:Z1.rangeAt w1.heap.size 0 (lfL f):=(by rw [hZ1];exact World.rangeAt_setCells_apart HF1.out _ 3 _ (.inl (by omega)));have HR2:=Lib.hid (show Z1.there w.heap.size 0 18 by rw [hZ1];exact World.there_setCells HR1.out _ _ _);have HA3:=Lib.hid (show RTo w L bs (w.heap.size+1) s1 (oneW w (.slice va L vc)) Z1 by rw [hZ1];exact HA1.out.cells (by omega) hB0 _ _);obtain ⟨y0,y1,y2,y3,y4,y5,y6⟩:=lf_cells hf2;have hs2:w2.heap.size < Z1.heap.size:=(Array.getElem?_eq_some_iff.1 hi2).1;have HI2:=Lib.hid hi2;have HF2:=Lib.hid hf2;clear hZ1 hi2 hf2)
  refine (C2.out _ HA3.out.rd).mono ?_
  rintro e X2 ⟨rfl,g2⟩
  have hi3:=(g2.but.block _ hs2 hne1).trans HI2.out
  have HF3:=Lib.hid (range_but g2.but hne2 HF2.out)
  have HR3:=Lib.hid (there_but g2.but hne3 (by omega) HR2.out)
  have HA4:=Lib.hid (HA3.out.trans g2)
  have HT2:=Lib.hid (there_block hi3 9 6 (by show 9+6 ≤ 18;decide))
  have hs3:w2.heap.size < X2.heap.size:=(Array.getElem?_eq_some_iff.1 hi3).1
  have HI3:=Lib.hid hi3
  clear g2 hi3
  go_wp2_with (refine store_mid rfl 24 (.tmp 39) (.tmp 38) rfl w2.heap.size 9 rfl (opL' b) rfl info_opd1 (opd_one b) HT2.out ?_;intro Z2 hZ2;have hi4:Z2.heap[w2.heap.size]?=some (.cells #[.int .i64 f.op,.int .i64 f.cond,.int .i64 f.size,.int .i64 a.kind,.int .i64 a.reg,.int .i64 a.base,.int .i64 a.index,.int .i64 a.scale,.int .u32 a.disp,.int .i64 b.kind,.int .i64 b.reg,.int .i64 b.base,.int .i64 b.index,.int .i64 b.scale,.int .u32 b.disp,.int .u32 0,.bool f.rep,.int .i64 0] 26 (0,0)):=(by rw [hZ2,block_setCells _ 9 _ _ HI3.out];unfold opL';rw [setL_9]);have hf4:Z2.rangeAt w1.heap.size 0 (lfL f):=(by rw [hZ2];exact World.rangeAt_setCells_apart HF3.out _ 9 _ (.inl (by omega)));have HR4:=Lib.hid (show Z2.there w.heap.size 0 18 by rw [hZ2];exact World.there_setCells HR3.out _ _ _);have HA5:=Lib.hid (show RTo w L bs (w.heap.size+1) s2 (oneW w (.slice va L vc)) Z2 by rw [hZ2];exact HA4.out.cells (by omega) hB0 _ _);obtain ⟨v0,v1,v2,v3,v4,v5,v6⟩:=lf_cells hf4;have hs4:w2.heap.size < Z2.heap.size:=(Array.getElem?_eq_some_iff.1 hi4).1;have HI4:=Lib.hid hi4;clear hZ2 hi4 hf4)
  refine (C3.out _ HA5.out.rd).mono ?_
  rintro e X3 ⟨rfl,g3⟩
  have hi5:=(g3.but.block _ hs4 hne1).trans HI4.out
  have hr5:=there_but g3.but hne3 (by omega) HR4.out
  have ht5:=HA5.out.trans g3
  obtain ⟨rv,hRB,hrs⟩:=ht5.rd.at_
  obtain ⟨ra,rc,rfl⟩:=hrs.len
  have hle3:=ht5.rd.le
  obtain ⟨r0,_,r2,_⟩:=hRB.cells
  have q2:=hRB.froz 2
  have x15:=(cell_block hi5 15).1
  have f15:=(cell_block hi5 15).2
  have x17:=(cell_block hi5 17).1
  have f17:=(cell_block hi5 17).2
  simp only [List.getElem?_toArray,List.getElem?_cons_succ,List.getElem?_cons_zero] at x15 x17
  obtain ⟨M,hM⟩:∃ M,L - s3.k=M:=⟨_,rfl⟩
  rw [hM] at r0
  have hML:M ≤ L:=by omega
  have HKM:=Lib.hid (show (L:Int) - (M:Int)=(s3.k:Int) by omega)
  have hbX:=block_setCell (block_setCell hi5 15 (.int .u32 c.disp)) 17 (.int .i64 ((L:Int) - (M:Int)))
  have htX:=(ht5.cell w2.heap.size 15 (.int .u32 c.disp) (by omega) hB0).cell w2.heap.size 17 (.int .i64 ((L:Int) - (M:Int))) (by omega) hB0
  have hrX:((X3.setCell ⟨w2.heap.size,15,none⟩ (.int .u32 c.disp)).setCell ⟨w2.heap.size,17,none⟩ (.int .i64 ((L:Int) - (M:Int)))).there w.heap.size 0 18:=World.there_setCells (World.there_setCells hr5 w2.heap.size 15 [.int .u32 c.disp]) w2.heap.size 17 [.int .i64 ((L:Int) - (M:Int))]
  have HRX:=Lib.hid (show ((X3.setCell ⟨w2.heap.size,15,none⟩ (.int .u32 c.disp)).setCell ⟨w2.heap.size,17,none⟩ (.int .i64 ((L:Int) - (M:Int)))).rangeAt w2.heap.size 0 [.int .i64 f.op,.int .i64 f.cond,.int .i64 f.size,.int .i64 a.kind,.int .i64 a.reg,.int .i64 a.base,.int .i64 a.index,.int .i64 a.scale,.int .u32 a.disp,.int .i64 b.kind,.int .i64 b.reg,.int .i64 b.base,.int .i64 b.index,.int .i64 b.scale,.int .u32 b.disp,.int .u32 c.disp,.bool f.rep,.int .i64 ((L:Int) - (M:Int))] from range_block hbX)
  have HTX:=Lib.hid hrX
  have HAX:=Lib.hid htX
  clear g3 hi5 hr5 ht5 hRB hrs hle3 hM hbX htX hrX
  obtain ⟨V,hV⟩:∃ V,((X3.setCell ⟨w2.heap.size,15,none⟩ (.int .u32 c.disp)).setCell ⟨w2.heap.size,17,none⟩ (.int .i64 ((L:Int) - (M:Int))))=V:=⟨_,rfl⟩
  have HVX:=Lib.hid hV
  have htv:=HTX.out
  have hav:=HAX.out
  rw [hV] at htv hav
  have HTV:=Lib.hid htv
  have HAV:=Lib.hid hav
  clear hV htv hav
  go_upto_region 11 with (fail)
  rw [HVX.out]
  clear x15 x17 f15 f17 r0 r2 q2 y0 y1 y2 y3 y4 y5 y6 v0 v1 v2 v3 v4 v5 v6
  refine wp_region_vals (by kernel_rfl) (fun i=>i == 5) (by kernel_rfl) (EInv w L bs (w.heap.size+1) s3) (EG w.heap.size) (EV w.heap.size (w.heap.size+1) s3) ev_stays eg_refl ?_ ?_ ?_
  · exact ⟨HAV.out.rd.drew,HTV.out⟩
  · intro i o b' u1 ho hinv hsz hbase hdep
    have hi:i < 7:=(Array.getElem?_eq_some_iff.1 ho).1
    have b2:b'.tmps.getD 2 undef=.pointer (some ⟨w.heap.size,0,none⟩):=hbase 2 (by kernel_rfl)
    have b4:b'.tmps.getD 4 undef=.pointer (some ⟨w.heap.size+1,0,none⟩):=hbase 4 (by kernel_rfl)
    clear hbase hsz
    have h7:i=0 ∨ i=1 ∨ i=2 ∨ i=3 ∨ i=4 ∨ i=5 ∨ i=6:=by omega
    rcases h7 with rfl | rfl | rfl | rfl | rfl | rfl | rfl
    · cases ho
      exact wp_val (by simp [execOp,Act.eval,go_sem] <;> rfl) ⟨_,rfl,hinv,eg_refl _,rfl⟩
    · cases ho
      exact wp_val (by simp [execOp,Act.eval,b4] <;> rfl) ⟨_,rfl,hinv,eg_refl _,rfl⟩
    · cases ho
      have d1:b'.tmps.getD 63 undef=.pointer (some ⟨w.heap.size+1,0,none⟩):=hdep 1 (by kernel_rfl)
      exact wp_val (by simp [execOp,Act.eval,d1,go_sem] <;> rfl) ⟨_,rfl,hinv,eg_refl _,rfl⟩
    · cases ho
      have d2:b'.tmps.getD 64 undef=.pointer (some ⟨w.heap.size+1,0,none⟩):=hdep 2 (by kernel_rfl)
      exact wp_val (by simp [execOp,Act.eval,d2,go_sem] <;> rfl) ⟨_,rfl,hinv,eg_refl _,rfl⟩
    · cases ho
      have d3:b'.tmps.getD 65 undef=.pointer (some ⟨w.heap.size+1,2,none⟩):=hdep 3 (by kernel_rfl)
      obtain ⟨xv,hxB,_⟩:=hinv.1.at_
      have c2:=hxB.cells.2.2.1
      exact wp_val (by simp [execOp,Act.eval,d3,go_sem,c2] <;> rfl) ⟨_,rfl,hinv,eg_refl _,rfl⟩
    · cases ho
      have d0:b'.tmps.getD 62 undef=.agg (insL zeroI).toArray:=hdep 0 (by kernel_rfl)
      have hr:=World.rangeAt_setCells_same u1 w.heap.size 0 (insL zeroI) hinv.2
      refine wp_store_mid 26 (.tmp 2) (.tmp 62) rfl w.heap.size 0 (insL zeroI).toArray b2 d0 hinv.2 info_ins (by kernel_rfl) ⟨_,rfl,⟨hinv.1.cells (Nat.le_refl _) (by omega) _ _,World.there_setCells hinv.2 _ _ _⟩,fun _=>hr,hr⟩
    · cases ho
      have d4:b'.tmps.getD 66 undef=.int .i64 s3.err:=hdep 4 (by kernel_rfl)
      exact wp_val (by simp [execOp,Act.eval,d4] <;> rfl) ⟨_,rfl,hinv,eg_refl _,rfl⟩
  · intro ff u1 hinv hVV
    have h5:=hVV 5 (by decide)
    have h6:ff 6=.int .i64 s3.err:=hVV 6 (by decide)
    generalize hbb:laid _ ff _ _=b'
    have b2:b'.tmps.getD 2 undef=.pointer (some ⟨w.heap.size,0,none⟩):=by rw [← hbb];kernel_rfl
    have b3:b'.tmps.getD 3 undef=.int .i64 s3.err:=by rw [← hbb,← h6];kernel_rfl
    have bd:b'.defers=[]:=by rw [← hbb];kernel_rfl
    clear hbb
    have hl:=load_range (P:=Tryz.prog) (cs:=insL zeroI) 26 _ Tryz.underlying26 rfl info_ins h5
    have HL:=Lib.hid hl
    have HB5:=Lib.hid hinv.1.below
    clear h5 h6 hinv hVV hl
    go_wp2_with fail
    exact bodyPost_ret (results_cell_tmp rfl b2 b3 HL.out) bd ⟨by rw [HFIN.out];rfl,HB5.out⟩
set_option maxRecDepth 512
def zeroA:Array Value:=#[.int .i64 0,.int .i64 0,.int .i64 0,.int .i64 0,.int .i64 0,.int .i64 0,.int .i64 0,.int .i64 0,.int .u32 0,.int .i64 0,.int .i64 0,.int .i64 0,.int .i64 0,.int .i64 0,.int .u32 0,.int .u32 0,.bool false,.int .i64 0]
theorem ins_one (i:Ins):(insL i).toArray.all (·.oneCell')=true:=by simp [insL,Value.oneCell']
theorem store_ins {ops:Array Oper} {rest:List Oper} {op:Oper} {a:Act} {w:World} {Q:Exit→Act→World→Prop} (hgd:op.guard=none) (x y:Operand) (ho:op.op=.store 26 x y)
    (R:Nat) (hx:a.eval x=.pointer (some ⟨R,0,none⟩)) (q:Ins) (hy:a.eval y=insV q) (ht:w.there R 0 18)
    (hK:∀ Y,Y=w.setCells R 0 (insL q)→(loadVar 26 ⟨R,0,none⟩).run Tryz.prog Y=.ok (insV q) Y→wpList Tryz.prog ops Q rest (a.put op.dst undef) Y):wpList Tryz.prog ops Q (op :: rest) a w :=
  store_row hgd _ x y ho R hx (insL q) hy _ Tryz.underlying26 rfl info_ins (ins_one q) ht hK
end Go.Proofs.YtlnahkkemjgjbaaGreat
