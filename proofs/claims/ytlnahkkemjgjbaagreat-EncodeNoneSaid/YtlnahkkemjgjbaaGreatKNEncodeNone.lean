/- Instructions that no bytes are read as have none;the others have bytes that are read as they. -/
import Derived.Deep.DeepCutAuto
import Derived.Deep.CutBlock
import Derived.Great.BuildSlice
import Derived.Test.YtlnahkkemjgjbaaGreatKNShutIns
import Derived.Test.YtlnahkkemjgjbaaGreatKNT12
namespace Go.Proofs.YtlnahkkemjgjbaaGreat
open Go.ChangeShapes Go.WideShapes Go.ChangeAt Go.RowKit
def InU (x:Ins):Prop:=(0 ≤ x.c∧x.c < 4294967296)∧(0 ≤ x.a.disp∧x.a.disp < 4294967296)∧(0 ≤ x.b.disp∧x.b.disp < 4294967296)
structure NS (w:World) (X:Ins) (B:Nat) (u:World):Prop where
  x:u.heap[w.heap.size]?=some (.cells (insC X) 26 (0,0))
  j:∃ J,InU J∧u.heap[B]?=some (.cells (insC J) 26 (0,0))
  ne:w.heap.size < B
  bel:Below w.heap.size w u
theorem NS.put {w u Y:World} {X J J':Ins} {B:Nat} (hx:u.heap[w.heap.size]?=some (.cells (insC X) 26 (0,0))) (ne:w.heap.size < B) (bel:Below w.heap.size w u) (hj:u.heap[B]?=some (.cells (insC J) 26 (0,0))) (cs:List Value) (o:Nat) (hY:Y=u.setCells B o cs) (hJ:InU J') (e:setL (insC J) o cs=insC J'):NS w X B Y:=by
  subst hY
  refine ⟨(other_setCells (Nat.ne_of_lt ne) _ _ _).trans hx,⟨J',hJ,?_⟩,ne,below_setCells (Nat.le_of_lt ne) _ _ _ bel⟩
  rw [← e]
  exact block_setCells cs o u (insC J) hj
theorem NS.set {w u:World} {X J J':Ins} {B:Nat} (hx:u.heap[w.heap.size]?=some (.cells (insC X) 26 (0,0))) (ne:w.heap.size < B) (bel:Below w.heap.size w u) (hj:u.heap[B]?=some (.cells (insC J) 26 (0,0))) (k:Nat) (v:Value) (hJ:InU J') (e:setL (insC J) k [v]=insC J'):NS w X B (u.setCell ⟨B,k,none⟩ v) :=
  NS.put hx ne bel hj [v] k rfl hJ e
structure NZ (wr:World) (s:Value) (u:World):Prop where
  z:∃ Z B,InU Z∧s=.pointer (some ⟨B,0,none⟩)∧u.heap[B]?=some (.cells (insC Z) 26 (0,0))∧wr.heap.size ≤ B
  bel:Below wr.heap.size wr u
theorem run_c {f:Frm} {rm:Opd} {reg:Int} {L:Nat} {bs:Nat→Int} (hb:∀ i,0 ≤ bs i∧bs i < 256):∀ (l:List UInt8) (s t:Mst),runM f rm reg L bs l s=some t→(0 ≤ s.c∧s.c < 4294967296)→0 ≤ t.c∧t.c < 4294967296
  | [],s,t,h,hs=>by cases h;exact hs
  | c :: l,s,t,h,hs=>by
    have h:(stepM f rm reg L bs s c).bind (runM f rm reg L bs l)=some t:=h
    unfold stepM at h
    split at h
    · cases h
    · refine run_c hb l _ t h ?_
      dsimp only
      split
      · exact val_range hb
      · exact hs
theorem one_c {L:Nat} {bs:Nat→Int} {x:Ins} (hb:∀ i,0 ≤ bs i∧bs i < 256) (h:oneF L bs=(x,0)):0 ≤ x.c∧x.c < 4294967296:=by
  obtain ⟨hN,f,rep,_,_,_,_,hgo⟩:=one_head hb h
  have hm:∀ (i:Ins) (rm:Opd) (reg:Int) (bs':Nat→Int) (L' k:Nat),(∀ i,0 ≤ bs' i∧bs' i < 256)→i.c=0→madeF i f rm reg L' bs' k=(x,0)→0 ≤ x.c∧x.c < 4294967296:=fun i rm reg bs' L' k hb' hi h=>by
    unfold madeF at h
    split at h
    · injection h with _ h;exact absurd h (by decide)
    · rename_i s hs
      injection h with h _
      rw [← h]
      exact run_c hb' f.how _ s hs (by show 0 ≤ i.c∧i.c < 4294967296;rw [hi];decide)
  unfold goF at hgo
  split at hgo
  · split at hgo
    · injection hgo with _ h;exact absurd h (by decide)
    · exact hm _ _ _ _ _ _ hb rfl hgo
  · exact hm _ _ _ _ _ _ hb rfl hgo
theorem setL_any (I J:Ins):setL (insC I) 0 (insL J)=insC J:=by kernel_rfl
theorem store_op_at {ops:Array Oper} {rest:List Oper} {op:Oper} {a:Act} {w:World} {Q:Exit→Act→World→Prop} (hgd:op.guard=none) (x y:Operand) (ho:op.op=.store 24 x y)
    (R o:Nat) (hx:a.eval x=.pointer (some ⟨R,o,none⟩)) (q:Opd) (hy:a.eval y=.agg (opL' q).toArray) (ht:w.there R o 6)
    (hK:∀ Y,Y=w.setCells R o (opL' q)→wpList Tryz.prog ops Q rest (a.put op.dst undef) Y):wpList Tryz.prog ops Q (op :: rest) a w :=
  wpList_store_mid hgd _ x y ho R o (opL' q).toArray hx hy ht info_opd1 (by simp [opL',Value.oneCell']) (hK _ rfl)
theorem setL_a (J:Ins) (q:Opd):setL (insC J) 3 (opL' q)=insC { J with a:=q }:=by kernel_rfl
theorem setL_b (J:Ins) (q:Opd):setL (insC J) 9 (opL' q)=insC { J with b:=q }:=by kernel_rfl
theorem or_one (d:Int) (d0:0 ≤ d) (d1:d < 4294967296):∃ z,bits .or .u32 d 1=z∧0 ≤ z∧z < 4294967296:=by
  refine ⟨_,u32_or d 1 d0 d1 (by decide) (by decide),Int.natCast_nonneg _,?_⟩
  have h:d.toNat ||| (1:Int).toNat < 2 ^ 32:=Nat.or_lt_two_pow (by omega) (by decide)
  omega
set_option maxRecDepth 100000
set_option maxHeartbeats 8000000
theorem encnone_walk (X:Ins) (k rm d what vv:Int) (w:World) (hX:InU X) (k0:0 ≤ k) (k1:k < 256) (r0:0 ≤ rm) (r1:rm < 256) (d0:0 ≤ d) (d1:d < 4294967296) (h0:0 ≤ what) (h1:what < 256) :
    Calls Tryz.prog 3 #[insV X,.int .u8 k,.int .u8 rm,.int .u32 d,.int .u8 what,.int .i64 vv] w fun e w'=>e=.returned (.bool true)∧Below w.heap.size w w':=by
  have HBY:=Lib.hid (fun w=>bytes_any k rm d w k0 k1 d0 d1)
  have lok:=bytesF_ok k rm d r0 r1 d0 d1
  obtain ⟨l13,l15⟩:=bytesF_len k rm d
  obtain ⟨od,hod,od0,od1⟩:=or_one d d0 d1
  generalize bytesF k rm d=Y at *
  have HOK:=Lib.hid lok
  have HL:=Lib.hid l15
  have HX:=Lib.hid hX
  have HOD:=Lib.hid hod
  have HOB:=Lib.hid (And.intro od0 od1)
  clear lok l13 l15 hX hod od0 od1
  unfold insV
  go_enter Tryz.func3,Tryz.ntmps3
  go_wp2_with fail
  refine (known11_any _).mono ?_
  rintro e w0 ⟨rfl,B0⟩
  have HB0:=Lib.hid B0
  clear B0
  go_wp2_with fail
  refine (HBY.out _).mono ?_
  rintro e w1 ⟨v1,rfl,O1,B1⟩
  have HS1:=Lib.hid O1.slc
  have HB1:=Lib.hid (below_step HB0.out B1)
  clear O1 B1
  go_wp2_with fail
  refine (rone_any v1 Y.length (lst Y) (lst_ok HOK.out) (by have:=HL.out;omega) _ HS1.out).mono ?_
  rintro e w2 ⟨rfl,b2⟩
  obtain ⟨⟨I,E⟩,hx⟩:∃ y,y=oneF Y.length (lst Y):=⟨_,rfl⟩
  rw [← hx]
  unfold insR
  have HI:=Lib.hid hx
  have HB2:=Lib.hid (below_step HB1.out b2)
  clear hx b2 HS1
  have HT:=Lib.hid (there_alloc_new w2 zeroA 26 18 (by decide))
  have HK2:=Lib.hid (show w2.heap[w.heap.size]?=some (.cells (insC X) 26 (0,0)) from (HB2.out.block _ (by simp)).trans (made_at _ _ _))
  have HBW:=Lib.hid (below_first HB2.out)
  have HNE:=Lib.hid (show w.heap.size < w2.heap.size from (Array.getElem?_eq_some_iff.1 HK2.out).1)
  go_upto_if 34 with (refine store_ins rfl (.tmp 13) (.tmp 31) rfl w2.heap.size rfl I rfl HT.out ?_;intro Y1 hY hl;clear hl;obtain ⟨q1,q2,q3⟩:=stored hY;have HA1:=Lib.hid q1;have HB3:=Lib.hid (below_step HBW.out q2);have HK3:=Lib.hid (on_block HK2.out q2);have HZ3:=Lib.hid q3;clear hY q1 q2 q3)
  go_cut [] (fun wx=>NS w X w2.heap.size wx)
  case first =>
    by_cases he:E=0
    · subst he
      have hok:=one_ok (lst_ok HOK.out) HI.out.symm
      have HNS:=Lib.hid (show NS w X w2.heap.size Y1 from ⟨HK3.out,⟨I,⟨one_c (lst_ok HOK.out) HI.out.symm,hok.1,hok.2⟩,HA1.out⟩,HNE.out,HB3.out⟩)
      clear hok
      go_wp2_with fail
      go_meet
      exact HNS.out
    · have he1:(E != 0)=true:=by simpa using he
      have hk9:0 ≤ k % 9:=by omega
      clear he
      go_wp2_with fail
      refine (rregister_below 1 (k % 9) _).mono ?_
      rintro e w3 ⟨rfl,b3⟩
      have HA3:=Lib.hid (on_block HA1.out b3)
      have HB4:=Lib.hid (below_step HB3.out b3)
      have HK4:=Lib.hid (on_block HK3.out b3)
      clear b3
      unfold opV regO
      go_wp2_with fail
      refine (rnumber_any d _).mono ?_
      rintro e w4 ⟨rfl,b4⟩
      have HA4:=Lib.hid (on_block HA3.out b4)
      have HB5:=Lib.hid (below_step HB4.out b4)
      have HK5:=Lib.hid (on_block HK4.out b4)
      have HT4:=Lib.hid (there_block HA4.out 0 18 (Nat.le_refl 18))
      have HD:=Lib.hid (And.intro d0 d1)
      clear b4
      unfold opV numO
      have HU0:=Lib.hid (show InU ⟨18,0,4,⟨1,k % 9,-1,-1,1,0⟩,⟨4,0,-1,-1,1,d⟩,0,false,0⟩ from ⟨(show (0:Int) ≤ 0∧(0:Int) < 4294967296 by decide),(show (0:Int) ≤ 0∧(0:Int) < 4294967296 by decide),HD.out⟩)
      go_wp2_with (refine store_ins rfl (.tmp 13) (.tmp 41) rfl w2.heap.size rfl ⟨18,0,4,⟨1,k % 9,-1,-1,1,0⟩,⟨4,0,-1,-1,1,d⟩,0,false,0⟩ rfl HT4.out ?_;intro Y2 hY hl;clear hl;have HNS:=Lib.hid (NS.put HK5.out HNE.out HB5.out HA4.out _ 0 hY HU0.out (setL_any _ _));clear hY)
      go_meet
      exact HNS.out
  case rest =>
  have HNS:=Lib.hid hcut
  clear hcut
  go_upto_block 0 with fail
  go_cut [43] (fun _ wx=>NS w X w2.heap.size wx)
  case first =>
    obtain ⟨J,hJ,hb⟩:=HNS.out.j
    have HJ:=Lib.hid hb
    have HU:=Lib.hid hJ
    have fz:=fun k=>(cell_block hb k).2
    rcases (show what % 10=0 ∨ what % 10=1 ∨ what % 10=2 ∨ what % 10=3 ∨ what % 10=4 ∨ what % 10=5 ∨ what % 10=6 ∨ what % 10=7 ∨ what % 10=8 ∨ what % 10=9 by omega) with h | h | h | h | h | h | h | h | h | h
    · rw [h]
      have c0:wc.cell? ⟨w2.heap.size,2,none⟩=_:=(cell_block hb 2).1
      have f0:=fz 2
      simp [insC] at c0
      have hw:=IntKind.wrap_u32' (d * 3)
      clear h hb hJ fz
      go_wp2_with fail
      go_meet
      exact NS.set HNS.out.x HNS.out.ne HNS.out.bel HJ.out 2 _ (J':={ J with size:=vv }) ⟨HU.out.1,HU.out.2⟩ rfl
    · rw [h]
      have c0:wc.cell? ⟨w2.heap.size,1,none⟩=_:=(cell_block hb 1).1
      have f0:=fz 1
      simp [insC] at c0
      have hw:=IntKind.wrap_u32' (d * 3)
      clear h hb hJ fz
      go_wp2_with fail
      go_meet
      exact NS.set HNS.out.x HNS.out.ne HNS.out.bel HJ.out 1 _ (J':={ J with cond:=wrap64 (J.cond+1) }) ⟨HU.out.1,HU.out.2⟩ rfl
    · rw [h]
      have c0:wc.cell? ⟨w2.heap.size,3,none⟩=_:=(cell_block hb 3).1
      have f0:=fz 3
      simp [insC] at c0
      have hw:=IntKind.wrap_u32' (d * 3)
      clear h hb hJ fz
      go_wp2_with fail
      go_meet
      exact NS.set HNS.out.x HNS.out.ne HNS.out.bel HJ.out 3 _ (J':={ J with a:={ J.a with kind:=rm % 7 } }) ⟨HU.out.1,HU.out.2⟩ rfl
    · rw [h]
      have c0:wc.cell? ⟨w2.heap.size,10,none⟩=_:=(cell_block hb 10).1
      have f0:=fz 10
      simp [insC] at c0
      have hw:=IntKind.wrap_u32' (d * 3)
      clear h hb hJ fz
      go_wp2_with fail
      go_meet
      exact NS.set HNS.out.x HNS.out.ne HNS.out.bel HJ.out 10 _ (J':={ J with b:={ J.b with reg:=vv } }) ⟨HU.out.1,HU.out.2⟩ rfl
    · rw [h]
      have c0:wc.cell? ⟨w2.heap.size,16,none⟩=_:=(cell_block hb 16).1
      have f0:=fz 16
      simp [insC] at c0
      have hw:=IntKind.wrap_u32' (d * 3)
      clear h hb hJ fz
      go_wp2_with fail
      go_meet
      exact NS.set HNS.out.x HNS.out.ne HNS.out.bel HJ.out 16 _ (J':={ J with rep:=!J.rep }) ⟨HU.out.1,HU.out.2⟩ rfl
    · rw [h]
      have c0:wc.cell? ⟨w2.heap.size,15,none⟩=_:=(cell_block hb 15).1
      have f0:=fz 15
      simp [insC] at c0
      have hw:=IntKind.wrap_u32' (d * 3)
      have ho:=HOD.out
      clear h hb hJ fz
      go_wp2_with fail
      go_meet
      exact NS.set HNS.out.x HNS.out.ne HNS.out.bel HJ.out 15 _ (J':={ J with c:=od }) ⟨HOB.out,HU.out.2⟩ rfl
    · rw [h]
      have c0:wc.cell? ⟨w2.heap.size,7,none⟩=_:=(cell_block hb 7).1
      have f0:=fz 7
      simp [insC] at c0
      have hw:=IntKind.wrap_u32' (d * 3)
      clear h hb hJ fz
      go_wp2_with fail
      go_meet
      exact NS.set HNS.out.x HNS.out.ne HNS.out.bel HJ.out 7 _ (J':={ J with a:={ J.a with scale:=rm % 9 } }) ⟨HU.out.1,HU.out.2⟩ rfl
    · rw [h]
      have c0:wc.cell? ⟨w2.heap.size,0,none⟩=_:=(cell_block hb 0).1
      have f0:=fz 0
      simp [insC] at c0
      have hw:=IntKind.wrap_u32' (d * 3)
      clear h hb hJ fz
      go_wp2_with fail
      go_meet
      exact NS.set HNS.out.x HNS.out.ne HNS.out.bel HJ.out 0 _ (J':={ J with op:=k % 64 }) ⟨HU.out.1,HU.out.2⟩ rfl
    · rw [h]
      have c0:wc.cell? ⟨w2.heap.size,14,none⟩=_:=(cell_block hb 14).1
      have f0:=fz 14
      simp [insC] at c0
      have hw:=IntKind.wrap_u32' (d * 3)
      clear h hb hJ fz
      go_wp2_with fail
      go_meet
      exact NS.set HNS.out.x HNS.out.ne HNS.out.bel HJ.out 14 _ (J':={ J with b:={ J.b with disp:=d * 3 % 4294967296 } }) ⟨HU.out.1,HU.out.2.1,by show 0 ≤ d * 3 % 4294967296∧d * 3 % 4294967296 < 4294967296;omega⟩ rfl
    · rw [h]
      have HRA:=Lib.hid (range_ins hb 3 (opL' J.a) rfl)
      have HRB:=Lib.hid (range_ins hb 9 (opL' J.b) rfl)
      have HTA:=Lib.hid (there_block hb 3 6 (by show 9 ≤ 18;decide))
      clear h hb hJ fz
      go_wp2_with (first
        | (refine wpList_load_mid rfl 24 (.tmp 44) rfl w2.heap.size 9 rfl (opL' J.b) _ HRB.out Tryz.underlying24 rfl info_o6 ?_)
        | (refine wpList_load_mid rfl 24 (.tmp 46) rfl w2.heap.size 3 rfl (opL' J.a) _ HRA.out Tryz.underlying24 rfl info_o6 ?_)
        | (refine store_op_at rfl (.tmp 48) (.tmp 45) rfl w2.heap.size 3 rfl J.b rfl HTA.out ?_;intro Y1 hY;have HN1:=Lib.hid (NS.put (J':={ J with a:=J.b }) HNS.out.x HNS.out.ne HNS.out.bel HJ.out _ 3 hY ⟨HU.out.1,HU.out.2.2,HU.out.2.2⟩ (setL_a _ _));have HJ1:=Lib.hid (show Y1.heap[w2.heap.size]?=some (.cells (insC { J with a:=J.b }) 26 (0,0)) by rw [hY,← setL_a];exact block_setCells _ 3 wc _ HJ.out);have HTB:=Lib.hid (there_block HJ1.out 9 6 (by show 15 ≤ 18;decide));clear hY)
        | (refine store_op_at rfl (.tmp 49) (.tmp 47) rfl w2.heap.size 9 rfl J.a rfl HTB.out ?_;intro Y2 hY;have HN2:=Lib.hid (NS.put (J':={ J with a:=J.b,b:=J.a }) HN1.out.x HN1.out.ne HN1.out.bel HJ1.out _ 9 hY ⟨HU.out.1,HU.out.2.2,HU.out.2.1⟩ (setL_b _ _));clear hY))
      go_meet
      exact HN2.out
  case rest =>
  obtain ⟨⟨J,hJ,hJb⟩⟩:Nonempty (∃ J,InU J∧wc.heap[w2.heap.size]?=some (.cells (insC J) 26 (0,0))):=⟨hcut.j⟩
  have HJ:=Lib.hid hJ
  have HXB:=Lib.hid (seen_few _ _ _ _ hcut.x)
  have HJB:=Lib.hid (seen_few _ _ _ _ hJb)
  have HB6:=Lib.hid hcut.bel
  obtain ⟨ie,hie,hz,hsz⟩:∃ ie,Tryz.prog.info? 26=some ie∧ie.zero=some (.agg zeroA)∧ie.size=18:=by
    have h:(Tryz.prog.info? 26).map (fun i=>(i.zero,i.size))=some (some (.agg zeroA),18):=by kernel_rfl
    cases hi:Tryz.prog.info? 26 with
    | none=>rw [hi] at h;cases h
    | some i =>
      rw [hi] at h
      simp only [Option.map_some,Option.some.injEq,Prod.mk.injEq] at h
      exact ⟨i,rfl,h.1,h.2⟩
  have HIE:=Lib.hid (And.intro hie (And.intro hz hsz))
  obtain ⟨CL,hCL⟩:∃ C,C=(insL X ++ insL J).toArray:=⟨_,rfl⟩
  have HCL:=Lib.hid hCL
  clear hcut hJ hJb hie hz hsz hCL
  go_wp2_with (first
    | (refine wpList_load_mid rfl 26 (.tmp 6) rfl w.heap.size 0 rfl (insL X) _ HXB.out Tryz.underlying26 rfl info_ins ?_)
    | (refine wpList_load_mid rfl 26 (.tmp 13) rfl w2.heap.size 0 rfl (insL J) _ HJB.out Tryz.underlying26 rfl info_ins ?_)
    | (refine wpList_buildSlice rfl 34 26 2 _ rfl CL ie (.agg zeroA) Tryz.underlying34 HIE.out.1 HIE.out.2.1 (by rw [HIE.out.2.2];decide) (by rw [HIE.out.2.2];decide) (by rw [HIE.out.2.2,HCL.out];kernel_rfl) ?_))
  obtain ⟨wA,hwA⟩:∃ wA,wA=wc.alloc (.cells CL 26):=⟨_,rfl⟩
  rw [← hwA]
  have HBA:=Lib.hid (show Below w.heap.size w wA by rw [hwA];exact below_last HB6.out _)
  have HROW:=Lib.hid (show wA.heap[wc.heap.size]?=some (.cells CL 26 (0,0)) by rw [hwA];exact made_at _ _ _)
  clear hwA
  go_loopw [106] (fun v106 wr=>∃ m:Nat,m ≤ 2∧v106=.int .i64 m∧Below wA.heap.size wA wr) (fun v106 _=>2 - (intOf v106).toNat)
  case atStart=>exact ⟨0,by omega,rfl,Below.refl _ _⟩
  case round =>
    obtain ⟨m,hm,rfl,hbr⟩:=hrel
    have HBR:=Lib.hid hbr
    have HRR:=Lib.hid (on_block HROW.out hbr)
    clear hbr
    by_cases hlt:m < 2
    · have d2:decide ((m:Int) < 2)=true:=decide_eq_true (by omega)
      have HTS:=Lib.hid (there_alloc_new wr zeroA 26 18 (by decide))
      obtain ⟨Z,hZ,hZr⟩:∃ Z,InU Z∧wr.rangeAt wc.heap.size (m * 18) (insL Z):=by
        rcases (show m=0 ∨ m=1 by omega) with e | e
        · exact ⟨X,HX.out,range_ins HRR.out _ _ (by rw [HCL.out,e];rfl)⟩
        · exact ⟨J,HJ.out,range_ins HRR.out _ _ (by rw [HCL.out,e];rfl)⟩
      have HZR:=Lib.hid hZr
      have HE:=eone_any Z hZ.2.1 hZ.2.2
      have HD:=rencode_any Z hZ.1 hZ.2.1 hZ.2.2
      obtain ⟨⟨E1,F1⟩,hE1⟩:∃ y,y=encF Z:=⟨_,rfl⟩
      have hcode:=enc_code Z
      have hrd:=@enc_read Z
      rw [← hE1] at HE HD hcode hrd
      rw [show insV Z=.agg (insL Z).toArray from rfl] at HE HD
      have HE:=Lib.hid HE
      have HD:=Lib.hid HD
      have HCODE:=Lib.hid hcode
      have HRD:=Lib.hid hrd
      clear hZ hZr hcode hrd hE1
      go_wp2_with (first
        | (refine wpList_load_mid rfl 26 (.tmp 108) rfl wc.heap.size (m * 18) rfl (insL Z) _ HZR.out Tryz.underlying26 rfl info_ins ?_)
        | (refine store_ins rfl (.tmp 16) (.tmp 109) rfl wr.heap.size rfl Z rfl HTS.out ?_;intro Y2 hY hl;clear hl;obtain ⟨q1,q2,q3⟩:=stored hY;have HZ2:=Lib.hid q1;have HC2:=Lib.hid (below_step HBR.out q2);clear hY q1 q2 q3)
        | (refine wpList_load_mid rfl 26 (.tmp 16) rfl wr.heap.size 0 rfl (insL Z) _ (seen_few _ _ _ _ HZ2.out) Tryz.underlying26 rfl info_ins ?_))
      ((with_reducible refine (HE.out _).mono ?_);rintro e w5 ⟨v5,rfl,hs5,b5⟩)
      obtain ⟨a5,c5,rfl⟩:=hs5.len
      have HS5:=Lib.hid hs5
      have HZ5:=Lib.hid (on_block HZ2.out b5)
      have HC5:=Lib.hid (below_step HC2.out b5)
      clear hs5 b5 HE
      go_wp2_with (refine wpList_load_mid rfl 26 (.tmp 16) rfl wr.heap.size 0 rfl (insL Z) _ (seen_few _ _ _ _ HZ5.out) Tryz.underlying26 rfl info_ins ?_)
      ((with_reducible refine (HD.out _).mono ?_);rintro e w6 ⟨v6,rfl,b6⟩)
      have HS6:=Lib.hid (HS5.out.below b6)
      have HZ6:=Lib.hid (on_block HZ5.out b6)
      have HC6:=Lib.hid (below_step HC5.out b6)
      clear b6 HD HS5
      dsimp only
      rcases HCODE.out with hF | hF
      · obtain rfl:F1=0:=hF
        have hrd:=HRD.out rfl
        have HRE:=Lib.hid hrd
        clear hrd
        go_wp2_with fail
        ((with_reducible refine (done_any _ E1.length (lst E1) (byte_lst HRE.out.2.1) (Nat.le_trans HRE.out.2.2 (by decide)) w6 HS6.out).mono ?_);rintro e w7 ⟨rfl,b7⟩)
        rw [HRE.out.1]
        unfold insR
        have HZ7:=Lib.hid (on_block HZ6.out b7)
        have HC7:=Lib.hid (below_step HC6.out b7)
        have hne:wr.heap.size ≠ w7.heap.size:=Nat.ne_of_lt (Array.getElem?_eq_some_iff.1 HZ7.out).1
        have HNE7:=Lib.hid hne
        have HT7:=Lib.hid (there_alloc_new w7 zeroA 26 18 (by decide))
        clear b7 HS6 hne
        go_wp2_with (first
          | (refine store_ins rfl (.tmp 21) (.tmp 137) rfl w7.heap.size rfl { Z with len:=(E1.length:Int) } rfl HT7.out ?_;intro Y4 hY hl;clear hl;obtain ⟨q1,q2,q3⟩:=stored hY;have HZ8:=Lib.hid (on_block HZ7.out q2);have HQ8:=Lib.hid q1;have HC8:=Lib.hid (below_step HC7.out q2);obtain ⟨c17,f17⟩:=cell_17 HQ8.out;obtain ⟨e17,_⟩:=cell_17 HZ8.out;clear hY q1 q2 q3)
          | (refine wpList_load_mid rfl 26 (.tmp 21) rfl w7.heap.size 0 rfl (insL Z) _ (seen_few _ _ Z _ (set_few HQ8.out Z.len)) Tryz.underlying26 rfl info_ins ?_)
          | (refine wpList_load_mid rfl 26 (.tmp 16) rfl wr.heap.size 0 rfl (insL Z) _ (seen_few _ _ _ _ (set_apart HZ8.out HNE7.out _ _)) Tryz.underlying26 rfl info_ins ?_)
          | (refine wpList_neqD rfl (.tmp 151) (.tmp 152) rfl Z Z rfl rfl false (by simp) ?_))
        go_roundw
        case rel=>exact ⟨m+1,by omega,by go_num,HC8.out.setCell HC7.out.size _⟩
        case measure=>simp [intOf];omega
      · injection hF with e1 e2
        subst e1 e2
        go_wp2_with fail
        go_roundw
        case rel=>exact ⟨m+1,by omega,by go_num,HC6.out⟩
        case measure=>simp [intOf];omega
    · have d2:decide ((m:Int) < 2)=false:=decide_eq_false (by omega)
      go_wp2_with fail
      go_returns
      exact ⟨rfl,below_step HBA.out HBR.out⟩
set_option maxRecDepth 512
theorem encodeNone_own:ownKnob Tryz.prog.godebug=none:=by kernel_rfl
theorem u32_of {v:Int} (h:(.int .u32 v:Lit).wf=true):0 ≤ v∧v < 4294967296:=by
  simp only [Lit.wf,Bool.and_eq_true,decide_eq_true_eq] at h
  have e1:IntKind.u32.min=0:=by decide
  have e2:IntKind.u32.max=4294967295:=by decide
  omega
theorem u8_of {v:Int} (h:(.int .u8 v:Lit).wf=true):0 ≤ v∧v < 256:=by
  simp only [Lit.wf,Bool.and_eq_true,decide_eq_true_eq] at h
  have e1:IntKind.u8.min=0:=by decide
  have e2:IntKind.u8.max=255:=by decide
  omega
set_option maxRecDepth 100000
theorem encodeNone_lifted (os:Os) (started:os.Started) (H:Type) (enc:TypeId × Value→H) :
    ReturnsInHanded {} Tryz.checked os 3 .any (Rows.encodeNoneSpec.pre6 enc Tryz.prog Tryz.f3 Rows.encodeNoneRow.domain false) (Rows.encodeNoneSpec.post enc Tryz.prog Tryz.f3 false true false false):=by
  refine returnsInHanded_of_change (C:=Tryz.checked) encodeNone_own started (by kernel_rfl) Tryz.func3
    (ChangeSpec.witness6 (enc:=enc) (C:=Tryz.checked) false ⟨#[],#[insV zeroI,.int .u8 0,.int .u8 0,.int .u32 0,.int .u8 0,.int .i64 0],[]⟩ 8 (by kernel_rfl) (by kernel_rfl) (by kernel_rfl) (by kernel_rfl)) ?_
  intro W base args ds gs before hval0 hW hcnd _
  have hval:∀ (j:Nat) t v,Tryz.f3.params[j]?=some t→args[j]?=some v→Value.okWide Tryz.prog W .any base t v:=hval0
  have hW':=hW
  obtain ⟨p,q,hA0,hV,rfl,hfz,hnd⟩:=hW
  have hA:DataW.TrodAll enc Tryz.prog W 0 (fun _=>true) true Tryz.f3.params.toList args.toList ds p:=hA0
  rw [Tryz.params3] at hA hval
  obtain ⟨v0,vs0,d0,ds0,p0,q0,hargs,rfl,rfl,h0,r0⟩:=trodAll_cons hA
  obtain ⟨v1,vs1,d1,ds1,p1,q1,rfl,rfl,rfl,h1,r1⟩:=trodAll_cons r0
  obtain ⟨v2,vs2,d2,ds2,p2,q2,rfl,rfl,rfl,h2,r2⟩:=trodAll_cons r1
  obtain ⟨v3,vs3,d3,ds3,p3,q3,rfl,rfl,rfl,h3,r3⟩:=trodAll_cons r2
  obtain ⟨v4,vs4,d4,ds4,p4,q4,rfl,rfl,rfl,h4,r4⟩:=trodAll_cons r3
  obtain ⟨v5,vs5,d5,ds5,p5,q5,rfl,rfl,rfl,h5,r5⟩:=trodAll_cons r4
  obtain ⟨rfl,rfl,rfl⟩:=trodAll_nil r5
  obtain rfl:args=#[v0,v1,v2,v3,v4,v5]:=by cases args;simp_all
  obtain ⟨rfl,rfl⟩:=trodVars_none hV
  obtain ⟨X,rfl,rfl,rfl,w0⟩:=open_ins (hval 0 26 v0 rfl rfl) h0
  obtain ⟨a1,rfl,rfl,rfl,w1⟩:=open_int Tryz.underlying5 (hval 1 5 v1 rfl rfl) h1
  obtain ⟨a2,rfl,rfl,rfl,w2⟩:=open_int Tryz.underlying5 (hval 2 5 v2 rfl rfl) h2
  obtain ⟨a3,rfl,rfl,rfl,w3⟩:=open_int Tryz.underlying22 (hval 3 22 v3 rfl rfl) h3
  obtain ⟨a4,rfl,rfl,rfl,w4⟩:=open_int Tryz.underlying5 (hval 4 5 v4 rfl rfl) h4
  obtain ⟨a5,rfl,rfl,rfl,w5⟩:=open_int Tryz.underlying3 (hval 5 3 v5 rfl rfl) h5
  clear hA0 hval0
  simp only [List.append_nil] at hW'
  have b1:=u8_of w1
  have b2:=u8_of w2
  have b3:=u32_of w3
  have b4:=u8_of w4
  refine (encnone_walk X a1 a2 a3 a4 a5 W ⟨u32_of w0.v,u32_of w0.a.d,u32_of w0.b.d⟩ b1.1 b1.2 b2.1 b2.2 b3.1 b3.2 b4.1 b4.2).mono fun e W' ⟨he,hg⟩=>?_
  subst he
  exact ⟨_,rfl,post_plain hW' hg (fun sp=>(trodAll_cons_mk (shut_ins X w0) (trodAll_cons_mk (shut_int Tryz.underlying5 w1) (trodAll_cons_mk (shut_int Tryz.underlying5 w2) (trodAll_cons_mk (shut_int Tryz.underlying22 w3) (trodAll_cons_mk (shut_int Tryz.underlying5 w4) (trodAll_cons_mk (shut_int Tryz.underlying3 w5) trodAll_mk0))))))) (fun _=>rfl)
    (fun _ _ _=>(trodAll_cons_mk (shut_bool Tryz.underlying4 _) trodAll_mk0)) (ok_one (by kernel_rfl) rfl (okWide_bool_mk Tryz.underlying4 _))⟩
set_option maxRecDepth 512
theorem encodeNone_holds:Rows.EncodeNoneSaid :=
  OpenClaim.holds_of_wide 3 Tryz.f3 rfl rfl rfl rfl rfl rfl rfl ⟨rfl,rfl,rfl,rfl,rfl⟩ rfl rfl rfl rfl rfl (by kernel_rfl) Tryz.func3 (by kernel_rfl)
    (of_decide_eq_true (by kernel_rfl)) (by unfold Func.isWrapper;first | (rw [if_pos (by decide +kernel)];kernel_rfl) | (rw [if_neg (by decide +kernel)];exact ⟨rfl,rfl⟩))
    (fun os started H enc _=>encodeNone_lifted os started H enc)
#print axioms encodeNone_holds
end Go.Proofs.YtlnahkkemjgjbaaGreat
