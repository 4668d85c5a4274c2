import Derived.Test.YtlnahkkemjgjbaaGreatKNEncN
namespace Go.Proofs.YtlnahkkemjgjbaaGreat
open Go.ChangeShapes Go.WideShapes Go.ChangeAt Go.RowKit
theorem step_i (a b:Int) (w:World) {X:Result Bool} {B:Bool} (h:X=.ok B w):(if a=b then X else .ok false w)=.ok (a == b && B) w:=by
  by_cases e:a=b
  · rw [if_pos e,h,e];simp
  · rw [if_neg e,beq_eq_false_iff_ne.2 e];rfl
theorem step_b (a b:Bool) (w:World) {X:Result Bool} {B:Bool} (h:X=.ok B w):(if a=b then X else .ok false w)=.ok (a == b && B) w:=by
  by_cases e:a=b
  · rw [if_pos e,h,e];simp
  · rw [if_neg e,beq_eq_false_iff_ne.2 e];rfl
theorem step_l (a b:Int) (w:World):(if a=b then Result.ok true w else .ok false w)=.ok (a == b) w:=by
  by_cases e:a=b
  · rw [if_pos e,e];simp
  · rw [if_neg e,beq_eq_false_iff_ne.2 e]
def eqO (a b:Opd):Bool:=a.kind == b.kind && (a.reg == b.reg && (a.base == b.base && (a.index == b.index && (a.scale == b.scale && a.disp == b.disp))))
theorem eqO_iff (a b:Opd):eqO a b=decide (a=b):=by
  obtain ⟨a0,a1,a2,a3,a4,a5⟩:=a
  obtain ⟨b0,b1,b2,b3,b4,b5⟩:=b
  rw [Bool.eq_iff_iff,decide_eq_true_eq]
  simp [eqO]
set_option maxRecDepth 100000
set_option maxHeartbeats 4000000
theorem ins_eq2 (w:World) (i j:Ins):(Op.equalIn 10000 26 (insV i) (insV j)).run Tryz.prog w=.ok (i.op == j.op && (i.cond == j.cond && (i.size == j.size && (eqO i.a j.a && (eqO i.b j.b && (i.c == j.c && (i.rep == j.rep && i.len == j.len))))))) w:=by
  have u4:=Tryz.underlying3
  have z4:=Tryz.isAgg3
  have u5:=Tryz.underlying22
  have z5:=Tryz.isAgg22
  have ub:=Tryz.underlying4
  have zb:=Tryz.isAgg4
  have hS:Tryz.prog.underlying 26=some (.struct (Tryz.prog.fieldsOf 26)):=by kernel_rfl
  have hp:Tryz.prog.stoodInHeld 26=false:=by kernel_rfl
  unfold insV insC
  rw [show (10000:Nat)=9999+1 from rfl,run_equalIn_agg w 9999 26 _ _ hS hp]
  simp only [Program.fieldsOf,Tryz.underlying26]
  go_simp
  clear u4 z4 u5 z5 ub zb hS hp
  unfold eqO
  generalize i.op=i0,i.cond=i1,i.size=i2,i.c=i3,i.rep=i4,i.len=i5,j.op=j0,j.cond=j1,j.size=j2,j.c=j3,j.rep=j4,j.len=j5 at *
  obtain ⟨a0,a1,a2,a3,a4,a5⟩:=i.a
  obtain ⟨b0,b1,b2,b3,b4,b5⟩:=i.b
  obtain ⟨c0,c1,c2,c3,c4,c5⟩:=j.a
  obtain ⟨d0,d1,d2,d3,d4,d5⟩:=j.b
  dsimp only
  simp only [Bool.and_assoc]
  repeat' (first | exact step_l _ _ _ | refine step_i _ _ _ ?_ | refine step_b _ _ _ ?_)
set_option maxRecDepth 512
theorem ins_dec (i j:Ins):(i.op == j.op && (i.cond == j.cond && (i.size == j.size && (eqO i.a j.a && (eqO i.b j.b && (i.c == j.c && (i.rep == j.rep && i.len == j.len)))))))=decide (i=j):=by
  rw [eqO_iff,eqO_iff]
  obtain ⟨a0,a1,a2,a3,a4,a5,a6,a7⟩:=i
  obtain ⟨b0,b1,b2,b3,b4,b5,b6,b7⟩:=j
  rw [Bool.eq_iff_iff,decide_eq_true_eq]
  simp
theorem ins_eqlD (w:World) (i j:Ins):(binOp .eql 26 (insV i) (insV j)).run Tryz.prog w=.ok (.bool (decide (i=j))) w:=by
  show (binOp .eql 26 (.agg (insC i)) (.agg (insC j))).run Tryz.prog w=_
  rw [run_eql_struct]
  show ((Op.equalIn 10000 26 (insV i) (insV j)).run Tryz.prog w).andThen _=_
  rw [ins_eq2,ins_dec]
  rfl
theorem ins_neqD (w:World) (i j:Ins):(binOp .neq 26 (insV i) (insV j)).run Tryz.prog w=.ok (.bool (!decide (i=j))) w:=by
  show (binOp .neq 26 (.agg (insC i)) (.agg (insC j))).run Tryz.prog w=_
  rw [run_neq_struct]
  show ((Op.equalIn 10000 26 (insV i) (insV j)).run Tryz.prog w).andThen _=_
  rw [ins_eq2,ins_dec]
  rfl
theorem wpList_eqlD {ops:Array Oper} {rest:List Oper} {op:Oper} {a:Act} {w:World} {Q:Exit→Act→World→Prop} (hgd:op.guard=none) (x y:Operand) (ho:op.op=.binOp .eql 26 x y 26) (i j:Ins) (hx:a.eval x=insV i) (hy:a.eval y=insV j) (B:Bool) (hB:B=decide (i=j))
    (hK:wpList Tryz.prog ops Q rest (a.put op.dst (.bool B)) w):wpList Tryz.prog ops Q (op :: rest) a w :=
  wpList_plain hgd fun _ hh=>by
    have hg:(eqGuard .eql 26 x y (insV i) (insV j)).run Tryz.prog w=.ok () w:=run_eqGuard_agg w .eql 26 x y (insC i) (insC j) ins_guard1
    unfold Oper.wp execOp
    rw [ho]
    simp only [Sem.run_bind,hx,hy,hg,Result.andThen_ok,ins_eqlD,← hB,Sem.run_pure]
    exact hh _ _ hK
theorem wpList_neqD {ops:Array Oper} {rest:List Oper} {op:Oper} {a:Act} {w:World} {Q:Exit→Act→World→Prop} (hgd:op.guard=none) (x y:Operand) (ho:op.op=.binOp .neq 26 x y 26) (i j:Ins) (hx:a.eval x=insV i) (hy:a.eval y=insV j) (B:Bool) (hB:B=!decide (i=j))
    (hK:wpList Tryz.prog ops Q rest (a.put op.dst (.bool B)) w):wpList Tryz.prog ops Q (op :: rest) a w :=
  wpList_plain hgd fun _ hh=>by
    have hg:(eqGuard .neq 26 x y (insV i) (insV j)).run Tryz.prog w=.ok () w:=run_eqGuard_agg w .neq 26 x y (insC i) (insC j) ins_guard1
    unfold Oper.wp execOp
    rw [ho]
    simp only [Sem.run_bind,hx,hy,hg,Result.andThen_ok,ins_neqD,← hB,Sem.run_pure]
    exact hh _ _ hK
def EncR (w:World) (x:List Int × Int) (e:Ending) (w':World):Prop:=∃ v,e=.returned (.tuple #[v,.int .i64 x.2])∧Slc .u8 w' v x.1.length (lst x.1)∧Below w.heap.size w w'
def noIns:Value→Bool
  | .int .u8 _=>false
  | .slice _ _ _=>false
  | _=>true
theorem ins_noIns (x:Ins):(insC x).all noIns=true:=by simp [insC,noIns]
theorem not_ins {w:World} {R:Nat} {x:Ins} {T:TypeId} (h:w.heap[R]?=some (.cells (insC x) T (0,0))) {p:Addr} {v:Value} (hc:w.cell? p=some v) (hv:noIns v=false):¬ p.block=R:=by
  intro e
  unfold World.cell? at hc
  rw [e,h] at hc
  simp only at hc
  by_cases hs:p.spot.isSome=true
  · rw [if_pos hs] at hc;cases hc
  · rw [if_neg hs] at hc
    obtain ⟨hi,hg⟩:=Array.getElem?_eq_some_iff.1 hc
    have:=Array.all_eq_true.1 (ins_noIns x) p.off hi
    rw [hg,hv] at this
    cases this
theorem slc_but {w w':World} {R:Nat} {x:Ins} {T:TypeId} (h:w.heap[R]?=some (.cells (insC x) T (0,0))) (hb:But (·=R) w w') {v:Value} {L:Nat} {bs:Nat→Int} (hs:Slc .u8 w v L bs):Slc .u8 w' v L bs:=by
  refine hs.but hb (fun hL j hj=>?_)
  rcases hs with ⟨rfl,h0⟩ | ⟨ad,cap,rfl,hl,hc⟩
  · omega
  · injection hj with hj
    have:=not_ins h (hc 0 hL) rfl
    rw [add_block] at this
    rw [← hj]
    exact this
theorem seen_few (w:World) (R:Nat) (x:Ins) (T:TypeId) (h:w.heap[R]?=some (.cells (insC x) T (0,0))):w.rangeAt R 0 (insL x):=fun j v hj=>by
  rw [Nat.zero_add,(cell_block h j).1]
  show (insL x).toArray[j]?=_
  simpa using hj
theorem BRows.len {w:World} {v:Value} {LL:List (List Int)} (h:BRows w v LL):∃ a c,v=.slice a LL.length c:=by
  rcases h with ⟨rfl,rfl⟩ | ⟨R,cap,rfl,_⟩
  · exact ⟨_,_,rfl⟩
  · exact ⟨_,_,rfl⟩
set_option maxRecDepth 100000
set_option maxHeartbeats 8000000
theorem eone_any (x:Ins) (ha:0 ≤ x.a.disp∧x.a.disp < 4294967296) (hb:0 ≤ x.b.disp∧x.b.disp < 4294967296) (w:World):Calls Tryz.prog 9 #[insV x] w (EncR w (encF x)):=by
  have HS:=spellings_any x ha hb
  rw [show insV x=.agg (insL x).toArray from rfl] at HS
  have HS:=Lib.hid HS
  clear ha hb
  obtain ⟨LL,hLL⟩:∃ LL,spellF x=LL:=⟨_,rfl⟩
  obtain ⟨n,hn⟩:∃ n,LL.length=n:=⟨_,rfl⟩
  have hn6:n ≤ 6:=by rw [← hn,← hLL];exact spell_len x
  have HLL:=Lib.hid hLL
  rw [hLL] at HS
  obtain ⟨res,hres⟩:∃ r,encF x=r:=⟨_,rfl⟩
  rw [hres]
  have HR:=Lib.hid hres
  have HN:=Lib.hid hn
  clear hLL hres hn
  unfold insV
  go_enter Tryz.func9,Tryz.ntmps9
  go_wp2_with (refine wpList_load_mid rfl 26 (.tmp 1) rfl w.heap.size 0 rfl (insL x) _ (boxed x (Below.refl _ _)) Tryz.underlying26 rfl info_ins ?_)
  refine (HS.out _).mono ?_
  rintro e w1 ⟨v,rfl,hrows,hb1⟩
  have hblk:w1.heap[w.heap.size]?=some (.cells (insC x) 26 (0,0)):=by rw [hb1.block _ (by simp)];exact made_at _ _ _
  have hlt:w.heap.size < w1.heap.size:=by have:=hb1.size;simp at this;omega
  have HK:=Lib.hid hblk
  have HB1:=Lib.hid (below_first hb1)
  have HT:=Lib.hid hlt
  clear hb1 hblk hlt
  obtain ⟨a,c,hv⟩:=hrows.len
  rw [HN.out] at hv
  subst hv
  have HRW:=Lib.hid hrows
  clear hrows
  go_wp2_with fail
  go_loopw [11] (fun v11 wr=>∃ (k:Nat) (m:Int),k ≤ n∧v11=.int .i64 k∧(∀ j,j < k→isF' x (LL.getD j [])=false)∧But (·=w.heap.size) w1 wr∧wr.heap[w.heap.size]?=some (.cells (insC { x with len:=m }) 26 (0,0))∧Below w.heap.size w wr) (fun v11 _=>n - (intOf v11).toNat)
  case atStart=>exact ⟨0,x.len,Nat.zero_le _,rfl,fun j hj=>absurd hj (Nat.not_lt_zero _),But.refl _ _,HK.out,HB1.out⟩
  case round =>
    obtain ⟨k,m,hk,rfl,hno,hbut,hblk,hbel⟩:=hrel
    have HNO:=Lib.hid hno
    have HBT:=Lib.hid hbut
    have HBK:=Lib.hid hblk
    have HBL:=Lib.hid hbel
    clear hno hbut hblk hbel
    by_cases hlt:k < n
    · obtain ⟨R',cap,e1,hcap,hcells⟩:=HRW.out.at_ (by rw [HN.out];omega)
      injection e1 with ea en ec
      subst ea ec
      clear en
      obtain ⟨z,a',c',rfl,hcell,hslc⟩:=hcells k (by rw [HN.out];exact hlt)
      have d1:decide ((k:Int) < (n:Int))=true:=decide_eq_true (by omega)
      have hcell2:=HBT.out.cell hcell (not_ins HK.out hcell rfl)
      have hE:=spell_in (x:=x) (E:=LL.getD k []) (by rw [HLL.out];rw [List.getD_eq_getElem?_getD,List.getElem?_eq_getElem (by rw [HN.out];exact hlt)];exact List.getElem_mem _)
      have HSL:=Lib.hid (slc_but HK.out HBT.out hslc)
      obtain ⟨E,hEe⟩:∃ E,LL.getD k []=E:=⟨_,rfl⟩
      rw [hEe] at hE HSL hcell2
      have HE:=Lib.hid hEe
      have HEB:=Lib.hid hE
      have c17:=(cell_block HBK.out 17).1
      have f17:=(cell_block HBK.out 17).2
      have c17:wr.cell? ⟨w.heap.size,17,none⟩=some (.int .i64 m):=c17
      have hkn:(k:Int) < (n:Int):=by omega
      clear hcells hcell hslc hEe hE hcap
      go_wp2_with fail
      obtain ⟨Y,hY⟩:∃ Y,Y=wr.setCell ⟨w.heap.size,17,none⟩ (.int .i64 (E.length:Int)):=⟨_,rfl⟩
      rw [← hY]
      have hYb:But (·=w.heap.size) wr Y:=by rw [hY];exact (But.refl (·=w.heap.size) wr).setCell (a:=⟨w.heap.size,17,none⟩) (fun _=>rfl) _
      have HY1:=Lib.hid (HBT.out.trans hYb (fun _ _ h=>h))
      have HY2:=Lib.hid (show Y.heap[w.heap.size]?=some (.cells (insC { x with len:=(E.length:Int) }) 26 (0,0)) by rw [hY];exact block_setCell HBK.out 17 _)
      have HY3:=Lib.hid (show Below w.heap.size w Y by rw [hY];exact HBL.out.setCell (Nat.le_refl _) _)
      have HY4:=Lib.hid (slc_but HBK.out hYb HSL.out)
      clear hY hYb HBT HBK HBL HSL c17 f17 hcell2
      obtain ⟨⟨I,F⟩,hx⟩:∃ y,y=oneF E.length (lst E):=⟨_,rfl⟩
      have HD:=Lib.hid (done_any _ E.length (lst E) (byte_lst HEB.out.1) (by have:=HEB.out.2;omega) Y HY4.out)
      rw [← hx] at HD
      have HX:=Lib.hid hx
      clear hx
      refine HD.out.mono ?_
      rintro e w2 ⟨rfl,b2⟩
      unfold insR
      have HZ1:=Lib.hid (HY1.out.trans (But.of_below (F:=(·=w.heap.size)) b2) (fun _ _ h=>h))
      have HZ2:=Lib.hid ((b2.block w.heap.size (by have:=HY1.out.size;have:=HT.out;omega)).trans HY2.out)
      have HZ3:=Lib.hid (below_step HY3.out b2)
      have HZ4:=Lib.hid (HY4.out.below b2)
      clear b2 HD HY1 HY2 HY3 HY4
      have HT1:=Lib.hid (there_alloc_new w2 zeroA 26 18 (by decide))
      by_cases he:F=0
      · subst he
        obtain ⟨B,hB⟩:∃ B,B=decide (I={ x with len:=(E.length:Int) }):=⟨_,rfl⟩
        have HBB:=Lib.hid hB
        clear hB
        cases B with
        | true =>
          go_wp2_with (first
            | (refine store_ins rfl (.tmp 6) (.tmp 21) rfl w2.heap.size rfl I rfl HT1.out ?_;intro Y1 hY1 hl;clear hl
               have HP1:=Lib.hid (show Y1.rangeAt w2.heap.size 0 (insL I) by rw [hY1];exact World.rangeAt_setCells_same _ _ _ _ HT1.out)
               have hbl:Below w2.heap.size w2 Y1:=by rw [hY1];exact below_setCells (Nat.le_refl _) _ _ _ (below_last (Below.refl _ _) _)
               have HP2:=Lib.hid ((hbl.block w.heap.size (by have:=HZ1.out.size;have:=HT.out;omega)).trans HZ2.out)
               have HP3:=Lib.hid (below_step HZ3.out hbl)
               have HP4:=Lib.hid (HZ4.out.below hbl)
               have HP5:=Lib.hid (HZ1.out.trans (But.of_below (F:=(·=w.heap.size)) hbl) (fun _ _ h=>h))
               clear hY1 hbl)
            | (refine wpList_met (by rfl) ?_;refine wpList_load_mid rfl 26 (.tmp 6) rfl w2.heap.size 0 rfl (insL I) _ HP1.out Tryz.underlying26 rfl info_ins ?_)
            | (refine wpList_met (by rfl) ?_;refine wpList_load_mid rfl 26 (.tmp 1) rfl w.heap.size 0 rfl (insL { x with len:=(E.length:Int) }) _ (seen_few _ _ _ _ HP2.out) Tryz.underlying26 rfl info_ins ?_)
            | (refine wpList_met (by rfl) ?_;refine wpList_eqlD rfl (.tmp 26) (.tmp 27) rfl I { x with len:=(E.length:Int) } rfl rfl _ HBB.out ?_))
          go_returns
          have hI:=of_decide_eq_true HBB.out.symm
          have hr:res=(E,0):=by
            rw [← HR.out,← HE.out,← HLL.out]
            refine enc_at (by rw [HLL.out,HN.out];exact hlt) (fun j hj=>by rw [HLL.out];exact HNO.out j hj) ?_
            rw [HLL.out,HE.out]
            unfold isF'
            exact decide_eq_true (by rw [← HX.out,hI])
          exact ⟨_,by rw [hr];rfl,by rw [hr];exact HP4.out,HP3.out⟩
        | false =>
          go_wp2_with (first
            | (refine store_ins rfl (.tmp 6) (.tmp 21) rfl w2.heap.size rfl I rfl HT1.out ?_;intro Y1 hY1 hl;clear hl
               have HP1:=Lib.hid (show Y1.rangeAt w2.heap.size 0 (insL I) by rw [hY1];exact World.rangeAt_setCells_same _ _ _ _ HT1.out)
               have hbl:Below w2.heap.size w2 Y1:=by rw [hY1];exact below_setCells (Nat.le_refl _) _ _ _ (below_last (Below.refl _ _) _)
               have HP2:=Lib.hid ((hbl.block w.heap.size (by have:=HZ1.out.size;have:=HT.out;omega)).trans HZ2.out)
               have HP3:=Lib.hid (below_step HZ3.out hbl)
               have HP4:=Lib.hid (HZ4.out.below hbl)
               have HP5:=Lib.hid (HZ1.out.trans (But.of_below (F:=(·=w.heap.size)) hbl) (fun _ _ h=>h))
               clear hY1 hbl)
            | (refine wpList_met (by rfl) ?_;refine wpList_load_mid rfl 26 (.tmp 6) rfl w2.heap.size 0 rfl (insL I) _ HP1.out Tryz.underlying26 rfl info_ins ?_)
            | (refine wpList_met (by rfl) ?_;refine wpList_load_mid rfl 26 (.tmp 1) rfl w.heap.size 0 rfl (insL { x with len:=(E.length:Int) }) _ (seen_few _ _ _ _ HP2.out) Tryz.underlying26 rfl info_ins ?_)
            | (refine wpList_met (by rfl) ?_;refine wpList_eqlD rfl (.tmp 26) (.tmp 27) rfl I { x with len:=(E.length:Int) } rfl rfl _ HBB.out ?_))
          go_roundw
          case rel=>exact ⟨k+1,(E.length:Int),by omega,by go_num,fun j hj=>by
            by_cases hjk:j=k
            · rw [hjk,HE.out]
              unfold isF'
              rw [← HX.out]
              exact decide_eq_false (fun h=>of_decide_eq_false HBB.out.symm (congrArg Prod.fst h))
            · exact HNO.out j (by omega),HP5.out,HP2.out,HP3.out⟩
          case measure=>simp [intOf];omega
      · have he1:(F == 0)=false:=by simpa using he
        go_wp2_with (refine store_ins rfl (.tmp 6) (.tmp 21) rfl w2.heap.size rfl I rfl HT1.out ?_;intro Y1 hY1 hl;clear hl
                     have hbl:Below w2.heap.size w2 Y1:=by rw [hY1];exact below_setCells (Nat.le_refl _) _ _ _ (below_last (Below.refl _ _) _)
                     have HP2:=Lib.hid ((hbl.block w.heap.size (by have:=HZ1.out.size;have:=HT.out;omega)).trans HZ2.out)
                     have HP3:=Lib.hid (below_step HZ3.out hbl)
                     have HP5:=Lib.hid (HZ1.out.trans (But.of_below (F:=(·=w.heap.size)) hbl) (fun _ _ h=>h))
                     clear hY1 hbl)
        go_roundw
        case rel=>exact ⟨k+1,(E.length:Int),by omega,by go_num,fun j hj=>by
          by_cases hjk:j=k
          · rw [hjk,HE.out]
            unfold isF'
            rw [← HX.out]
            exact decide_eq_false (fun h=>he (congrArg Prod.snd h))
          · exact HNO.out j (by omega),HP5.out,HP2.out,HP3.out⟩
        case measure=>simp [intOf];omega
    · obtain rfl:k=n:=by omega
      have d1:decide ((k:Int) < (k:Int))=false:=decide_eq_false (by omega)
      have hr:res=([],22):=by rw [← HR.out];exact enc_no (fun j hj=>by rw [HLL.out] at hj ⊢;exact HNO.out j (by rw [← HN.out];exact hj))
      go_wp2_with fail
      go_returns
      exact ⟨_,by rw [hr];rfl,by rw [hr];exact .inl ⟨rfl,rfl⟩,HBL.out⟩
set_option maxRecDepth 512
theorem str_144:strOf 1 (lst [144])=⟨#[144]⟩:=by kernel_rfl
set_option maxRecDepth 100000
theorem known11_any (w:World):Calls Tryz.prog 4 #[] w fun e w'=>e=.returned (.bool true)∧Below w.heap.size w w':=by
  have HE1:=eone_any ⟨50,0,0,noneO,noneO,0,false,0⟩ ⟨by decide,by decide⟩ ⟨by decide,by decide⟩
  rw [enc_nop,show insV ⟨50,0,0,noneO,noneO,0,false,0⟩=.agg (insL ⟨50,0,0,noneO,noneO,0,false,0⟩).toArray from rfl] at HE1
  have HE2:=eone_any zeroI ⟨by decide,by decide⟩ ⟨by decide,by decide⟩
  rw [enc_none] at HE2
  unfold insV insC zeroI zeroO at HE2
  have HE1:=Lib.hid HE1
  have HN:=Lib.hid (fun w=>(rnone_any w).mono (fun e w' (h:_∧_)=>(⟨h.1,by rw [h.2];exact below_last (Below.refl _ _) _⟩:e=.returned (opV noneO)∧Below w.heap.size w w')))
  have HE2:=Lib.hid HE2
  go_enter Tryz.func4,Tryz.ntmps4
  go_wp2_with fail
  refine (HN.out _).mono ?_
  rintro e wa ⟨rfl,ba⟩
  go_wp2_with fail
  refine (HN.out _).mono ?_
  rintro e wb ⟨rfl,bb⟩
  have HB0:=Lib.hid (below_step ba bb)
  clear ba bb
  have HT:=Lib.hid (there_alloc_new wb zeroA 26 18 (by decide))
  unfold opV noneO
  go_wp2_with (first
    | (refine store_ins rfl (.tmp 1) (.tmp 8) rfl wb.heap.size rfl ⟨50,0,0,noneO,noneO,0,false,0⟩ rfl HT.out ?_;intro Y hY hl;have HR:=Lib.hid (show Y.rangeAt wb.heap.size 0 (insL ⟨50,0,0,noneO,noneO,0,false,0⟩) by rw [hY];exact World.rangeAt_setCells_same _ _ _ _ HT.out);have HB:=Lib.hid (below_step HB0.out (show Below wb.heap.size wb Y by rw [hY];exact below_setCells (Nat.le_refl _) _ _ _ (below_last (Below.refl _ _) _)));clear hY hl)
    | (refine wpList_load_mid rfl 26 (.tmp 1) rfl wb.heap.size 0 rfl _ _ HR.out Tryz.underlying26 rfl info_ins ?_))
  refine (HE1.out _).mono ?_
  rintro e w1 ⟨v1,rfl,hs1,b1⟩
  have HS1:=Lib.hid hs1
  have HB1:=Lib.hid (below_step HB.out b1)
  clear hs1 b1
  go_wp2_with fail
  refine (HE2.out _).mono ?_
  rintro e w2 ⟨v2,rfl,hs2,b2⟩
  have HC:=Lib.hid ((HS1.out.below b2).str (fun i _=>by have:isByte [144]:=byte_cons ⟨by decide,by decide⟩ byte_nil;exact byte_lst this i))
  have HB2:=Lib.hid (below_step HB1.out b2)
  clear hs2 b2 HS1
  have HC:=HC.out
  rw [show ([144]:List Int).length=1 from rfl,str_144] at HC
  go_wp2_with fail
  go_returns
  exact ⟨rfl,HB2.out⟩
set_option maxRecDepth 512
theorem setL_ins (I:Ins):setL zeroA 0 (insL I)=insC I:=by kernel_rfl
theorem stored {w Y:World} {I:Ins} {T:TypeId} (hY:Y=(w.alloc (.cells zeroA T)).setCells w.heap.size 0 (insL I)):Y.heap[w.heap.size]?=some (.cells (insC I) T (0,0))∧Below w.heap.size w Y∧w.heap.size < Y.heap.size:=by
  refine ⟨?_,?_,?_⟩
  · have:=block_setCells (insL I) 0 (w.alloc (.cells zeroA T)) zeroA (made_at w zeroA T)
    rw [setL_ins] at this
    rw [hY]
    exact this
  · rw [hY];exact below_setCells (Nat.le_refl _) _ _ _ (below_last (Below.refl _ _) _)
  · rw [hY,setCells_size];simp
theorem on_block {u u':World} {B:Nat} {o:Obj} (h:u.heap[B]?=some o) (hb:Below u.heap.size u u'):u'.heap[B]?=some o:=(hb.block B (Array.getElem?_eq_some_iff.1 h).1).trans h
theorem set_few {u:World} {B:Nat} {I:Ins} {T:TypeId} (h:u.heap[B]?=some (.cells (insC I) T (0,0))) (n:Int):(u.setCell ⟨B,17,none⟩ (.int .i64 n)).heap[B]?=some (.cells (insC { I with len:=n }) T (0,0)):=block_setCell h 17 _
theorem set_apart {u:World} {A B:Nat} {o:Obj} (h:u.heap[A]?=some o) (hn:A ≠ B) (k:Nat) (v:Value):(u.setCell ⟨B,k,none⟩ v).heap[A]?=some o:=(other_setCell hn k v).trans h
theorem cell_17 {u:World} {B:Nat} {I:Ins} {T:TypeId} (h:u.heap[B]?=some (.cells (insC I) T (0,0))):u.cell? ⟨B,17,none⟩=some (.int .i64 I.len)∧u.frozen? ⟨B,17,none⟩=false:=⟨(cell_block h 17).1,(cell_block h 17).2⟩
end Go.Proofs.YtlnahkkemjgjbaaGreat
