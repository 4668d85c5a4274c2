import Derived.Deep.DeepCutAuto
import Derived.Deep.RegionWith
import Derived.Test.YtlnahkkemjgjbaaGreatKNF
namespace Go.Proofs.YtlnahkkemjgjbaaGreat
open Go.ChangeShapes Go.WideShapes Go.ChangeAt Go.RowKit
set_option maxRecDepth 100000
theorem append_more {w:World} {ops:Array Oper} {rest:List Oper} {o:Oper} {a:Act} {Q:Exit→Act→World→Prop}
    (hg:o.guard=none) (s x:Operand) (hop:o.op=Op.call { callee:=Callee.builtin Builtin.append,args:=#[s,x],argTypes:=#[30,30] })
    (l1 l2:List Int) (v1 v2:Value) (ad:Addr) (hs:a.eval s=v1) (he:v1=.slice (some ad) l1.length l1.length) (A:Addr) (c:Nat) (hx:a.eval x=v2) (he2:v2=.slice (some A) l2.length c) (h1:Slc .u8 w v1 l1.length (lst l1)) (h2:Slc .u8 w v2 l2.length (lst l2)) (hb:l1.length+l2.length ≤ 1000000)
    (hK:∀ v' w',Slc .u8 w' v' (l1.length+l2.length) (lst (l1 ++ l2))→Below w.heap.size w w'→wpList Tryz.prog ops Q rest (a.put o.dst v') w') :
    wpList Tryz.prog ops Q (o :: rest) a w:=by
  by_cases h0:0 < l2.length
  · exact append_bytes hg s x hop v1 v2 l1 l2 hs hx (some ad) he h1 h2 h0 hb hK
  · obtain rfl:l2=[]:=List.eq_nil_of_length_eq_zero (by omega)
    refine wpList_plain hg fun K hK'=>?_
    obtain ⟨i0,hi,hz0,hz1,hz2⟩:=info_parts info_u8'
    have hrun:(Builtin.append_ #[30,30] o.type #[.slice (some ad) l1.length l1.length,.slice (some A) 0 c]).run Tryz.prog w=.ok (.slice (some ad) l1.length l1.length) w:=by
      simp [Builtin.append_,run_underlying Tryz.underlying30,sizeOf,typeInfo,hi,Builtin.lenOf,Builtin.firstCells,storeCells,loadCells,loadCellsFrom]
    subst he he2
    simp only [List.length_nil] at hx
    unfold Oper.wp
    simp [execOp,hop,resolve,invoke,builtin,hs,hx,hrun,Result.andThen]
    refine hK' _ _ (hK _ _ ?_ (Below.refl _ _))
    rw [List.append_nil]
    exact h1
theorem slice_row4 (k n:Nat) (hn:n ≤ 4) (w:World) :
    (Instr.sliceAt 116 (.pointer (some ⟨k,0,none⟩)) none (some (.int .i64 (n:Int))) none).run Tryz.prog w=.ok (.slice (some ⟨k,0,none⟩) n 4) w:=by
  have hA:Tryz.prog.arrayLen 116=4:=by kernel_rfl
  have h:=run_sliceAt_array_h (P:=Tryz.prog) w 116 ⟨k,0,none⟩ (by rw [hA];exact Tryz.underlying116) .i64 (n:Int) (by omega) (by rw [hA];omega)
  have hz:(sizeOf (Tryz.prog.elem 116)).run Tryz.prog w=.ok 1 w:=by kernel_rfl
  rw [h,hA]
  simp [Result.andThen,slicedAt,hz,Addr.add]
set_option maxRecDepth 512
theorem addB_take (o:Opd):addB o=(bytes4 o.disp).take (addB o).length:=by
  unfold addB
  split
  · simp [bytes4]
  · split
    · rfl
    · split
      · rfl
      · simp [bytes4]
theorem lst_take {l m:List Int} (h:l=m.take l.length) (i:Nat) (hi:i < l.length):lst l i=lst m i:=by
  have e:l.getD i 0=(m.take l.length).getD i 0:=congrArg (fun q:List Int=>q.getD i 0) h
  unfold lst
  rw [e]
  simp [List.getD_eq_getElem?_getD,hi]
theorem slc_four (w:World) (k:Nat) (l:List Int) (d:Int) (d1:d < 4294967296) (d0:0 ≤ d) (hT:l=(bytes4 d).take l.length) (hM:l.length ≤ 4)
    (h0:w.cell? ⟨k,0,none⟩=some (.int .u8 (d % 256))) (h1:w.cell? ⟨k,1,none⟩=some (.int .u8 (d / 256 % 256))) (h2:w.cell? ⟨k,2,none⟩=some (.int .u8 (d / 65536 % 256))) (h3:w.cell? ⟨k,3,none⟩=some (.int .u8 (d / 16777216))) :
    Slc .u8 w (.slice (some ⟨k,0,none⟩) l.length 4) l.length (lst l) :=
  .inr ⟨_,_,rfl,hM,fun i hi=>by
    rw [addr_add,Nat.zero_add,lst_take hT i hi]
    have h:i=0 ∨ i=1 ∨ i=2 ∨ i=3:=by omega
    rcases h with rfl | rfl | rfl | rfl
    · exact h0
    · exact h1
    · exact h2
    · rw [h3,show lst (bytes4 d) 3=d / 16777216 % 256 from rfl,show d / 16777216 % 256=d / 16777216 by omega]⟩
theorem slc_one (w:World) (k:Nat) (x:Int) (h0:w.cell? ⟨k,0,none⟩=some (.int .u8 x)):Slc .u8 w (.slice (some ⟨k,0,none⟩) 1 1) 1 (lst [x]) :=
  .inr ⟨_,_,rfl,Nat.le_refl _,fun i hi=>by
    obtain rfl:i=0:=by omega
    exact h0⟩
theorem slc_two (w:World) (k:Nat) (x y:Int) (h0:w.cell? ⟨k,0,none⟩=some (.int .u8 x)) (h1:w.cell? ⟨k,1,none⟩=some (.int .u8 y)):Slc .u8 w (.slice (some ⟨k,0,none⟩) 2 2) 2 (lst [x,y]) :=
  .inr ⟨_,_,rfl,Nat.le_refl _,fun i hi=>by
    have h:i=0 ∨ i=1:=by omega
    rcases h with rfl | rfl
    · exact h0
    · rw [addr_add];exact h1⟩
def Spelled (w:World) (P:List Int) (e:Ending) (w':World):Prop:=∃ v,e=.returned v∧Slc .u8 w' v P.length (lst P)∧Below w.heap.size w w'
theorem Spelled.mk {w w':World} {P:List Int} {v:Value} {e:Ending} {n:Nat} (he:e=.returned v) (hn:n=P.length) (hs:Slc .u8 w' v n (lst P)) (hb:Below w.heap.size w w'):Spelled w P e w':=by subst hn;exact ⟨v,he,hs,hb⟩
set_option maxRecDepth 100000
set_option maxHeartbeats 8000000
theorem mspelled_any (reg:Int) (o:Opd) (r0:0 ≤ reg) (r1:reg < 8) (d0:0 ≤ o.disp) (d1:o.disp < 4294967296) (h:memOk o) (w:World) :
    Calls Tryz.prog 84 #[.int .i64 reg,opV o] w (Spelled w (putF reg o)):=by
  obtain ⟨B,hB⟩:∃ B,(if o.base=-1 then 5 else o.base)=B:=⟨_,rfl⟩
  obtain ⟨hk,hrg,hb0,hb1,hi0,hi1,hi4,hsc,his⟩:=h
  have hB0:0 ≤ B∧B < 8:=by rw [← hB];split <;> omega
  have hBB:o.base=-1∧B=5 ∨ o.base ≠ -1∧B=o.base:=by
    by_cases h:o.base=-1
    · rw [if_pos h] at hB;exact .inl ⟨h,hB.symm⟩
    · rw [if_neg h] at hB;exact .inr ⟨h,hB.symm⟩
  have hl:=log9_ok o.scale hsc
  obtain ⟨a1,_,am,_⟩:=add_ok o d0 d1
  rw [hB] at a1
  have HSh:=mshortest_any o d0 d1
  have HSe:=msecond_any o B hsc hi0 hi1 hB0.1 hB0.2
  have HA:=madded_any (addM o) B am.1 am.2
  rw [a1] at HA
  have hP:putF reg o=if o.index=-1∧B ≠ 4 then (addM o * 64+reg * 8+B) :: addB o else (addM o * 64+reg * 8+4) :: (log9 o.scale * 64+(if o.index=-1 then 4 else o.index) * 8+B) :: addB o:=by
    unfold putF
    rw [if_neg (by rw [hk];decide),hB]
    have e:(o.index=-1∧o.base ≠ 4)=(o.index=-1∧B ≠ 4):=by rw [eq_iff_iff];omega
    by_cases hc:o.index=-1∧B ≠ 4
    · rw [if_pos hc,if_pos (by rw [e];exact hc)]
    · rw [if_neg hc,if_neg (by rw [e];exact hc)]
      by_cases hi:o.index=-1
      · rw [if_pos hi,if_pos hi,show o.scale=1 by omega];rfl
      · rw [if_neg hi,if_neg hi]
  have hT:=addB_take o
  have hM4:(addB o).length ≤ 4:=by rw [hT];simp [bytes4];omega
  have HJ1:=mjoined_any (addM o) reg B am.1 (by omega) r0 r1 hB0.1 hB0.2
  have HJ2:=mjoined_any (addM o) reg 4 am.1 (by omega) r0 r1 (by decide) (by decide)
  rw [hP]
  obtain ⟨kind,rg,base,index,scale,disp⟩:=o
  unfold opV
  unfold opV opC at HSh HSe
  simp only at d0 d1 hBB HSe HSh hT hM4 HA HJ1 HJ2 hi0 hi1 hi4 ⊢
  have HSp:=mspread_any disp d0 d1
  generalize addM ⟨kind,rg,base,index,scale,disp⟩=md at *
  generalize addB ⟨kind,rg,base,index,scale,disp⟩=l at *
  generalize log9 scale * 64+(if index=-1 then 4 else index) * 8+B=Y at *
  have hsl:=fun k u=>slice_row4 k l.length hM4 u
  have HT:=Lib.hid hT
  have HM4:=Lib.hid hM4
  have HSh:=Lib.hid HSh
  have HSe:=Lib.hid HSe
  have HA:=Lib.hid HA
  have HJ1:=Lib.hid HJ1
  have HJ2:=Lib.hid HJ2
  have HSp:=Lib.hid HSp
  clear hT hM4 hP a1 hB hk hrg hsc his hl
  rcases hBB with ⟨rfl,rfl⟩ | ⟨hn,rfl⟩
  · clear hb0 hb1 hB0
    by_cases hi:index=-1
    · subst hi
      rw [if_pos ⟨rfl,by decide⟩]
      go_enter Tryz.func84,Tryz.ntmps84
      go_wp2_with fail
      go_region_with (go_at_call 94;(with_reducible refine (HSh.out _).mono ?_);rintro e w' ⟨rfl,rfl⟩)
      all_goals
        go_wp2_with (first
          | (go_at_call 82;(with_reducible refine (HJ1.out _).mono ?_);rintro e w' ⟨rfl,rfl⟩)
          | (go_at_call 96;(with_reducible refine (HSp.out _).mono ?_);rintro e w' ⟨rfl,rfl⟩)
          | (go_at_call 97;(with_reducible refine (HA.out _).mono ?_);rintro e w' ⟨rfl,rfl⟩)
          | (at_builtin;go_loud (refine append_more rfl (.tmp 37) (.tmp 41) rfl [md * 64+reg * 8+5] l _ _ ⟨w.heap.size+1+1,0,none⟩ rfl rfl ⟨w.heap.size+1+1+1+1,0,none⟩ 4 rfl rfl (slc_one _ _ _ (by simp [go_sem])) (slc_four _ _ l disp d1 d0 HT.out HM4.out (by simp [go_sem]) (by simp [go_sem]) (by simp [go_sem]) (by simp [go_sem])) (by have:=HM4.out;simp;omega) ?_);intro v' w1 hs1 hb1;have HS1:=Lib.hid hs1;have HB1:=Lib.hid (below_step (w:=w) (by repeat (first | exact Below.refl _ _ | (with_reducible refine Below.drew ?_) | (with_reducible refine below_last ?_ _))) hb1);clear hs1 hb1))
        go_ret
        exact Spelled.mk rfl (by simp;omega) HS1.out HB1.out
    · rw [if_neg (by rintro ⟨h,_⟩;exact hi h)]
      have ei:(index != -1)=true:=by simpa using hi
      clear hi
      go_enter Tryz.func84,Tryz.ntmps84
      go_wp2_with fail
      go_region_with (go_at_call 94;(with_reducible refine (HSh.out _).mono ?_);rintro e w' ⟨rfl,rfl⟩)
      all_goals
        go_wp2_with (go_at_call 82;(with_reducible refine (HJ1.out _).mono ?_);rintro e w' ⟨rfl,rfl⟩)
        go_region_with (first | (go_at_call 82;(with_reducible refine (HJ2.out _).mono ?_);rintro e w' ⟨rfl,rfl⟩) | (go_at_call 95;(with_reducible refine (HSe.out _).mono ?_);rintro e w' ⟨rfl,rfl⟩))
        all_goals
          go_wp2_with (first
            | (go_at_call 96;(with_reducible refine (HSp.out _).mono ?_);rintro e w' ⟨rfl,rfl⟩)
            | (go_at_call 97;(with_reducible refine (HA.out _).mono ?_);rintro e w' ⟨rfl,rfl⟩)
            | (at_builtin;go_loud (refine append_more rfl (.tmp 37) (.tmp 41) rfl [md * 64+reg * 8+4,Y] l _ _ ⟨w.heap.size+1+1+1+1,0,none⟩ rfl rfl ⟨w.heap.size+1+1+1+1+1+1,0,none⟩ 4 rfl rfl (slc_two _ _ _ _ (by simp [go_sem]) (by simp [go_sem])) (slc_four _ _ l disp d1 d0 HT.out HM4.out (by simp [go_sem]) (by simp [go_sem]) (by simp [go_sem]) (by simp [go_sem])) (by have:=HM4.out;simp;omega) ?_);intro v' w1 hs1 hb1;have HS1:=Lib.hid hs1;have HB1:=Lib.hid (below_step (w:=w) (by repeat (first | exact Below.refl _ _ | (with_reducible refine Below.drew ?_) | (with_reducible refine below_last ?_ _))) hb1);clear hs1 hb1))
          go_ret
          exact Spelled.mk rfl (by simp;omega) HS1.out HB1.out
  · have en:(B == -1)=false:=by simpa using hn
    clear hb0 hb1 hB0 hn
    by_cases hi:index=-1
    · subst hi
      by_cases h4:B=4
      · subst h4
        rw [if_neg (by rintro ⟨_,h⟩;exact h rfl)]
        clear en
        go_enter Tryz.func84,Tryz.ntmps84
        go_wp2_with fail
        go_region_with (go_at_call 94;(with_reducible refine (HSh.out _).mono ?_);rintro e w' ⟨rfl,rfl⟩)
        all_goals
          go_wp2_with (go_at_call 82;(with_reducible refine (HJ1.out _).mono ?_);rintro e w' ⟨rfl,rfl⟩)
          go_region_with (first | (go_at_call 82;(with_reducible refine (HJ2.out _).mono ?_);rintro e w' ⟨rfl,rfl⟩) | (go_at_call 95;(with_reducible refine (HSe.out _).mono ?_);rintro e w' ⟨rfl,rfl⟩))
          all_goals
            go_wp2_with (first
              | (go_at_call 96;(with_reducible refine (HSp.out _).mono ?_);rintro e w' ⟨rfl,rfl⟩)
              | (go_at_call 97;(with_reducible refine (HA.out _).mono ?_);rintro e w' ⟨rfl,rfl⟩)
              | (at_builtin;go_loud (refine append_more rfl (.tmp 37) (.tmp 41) rfl [md * 64+reg * 8+4,Y] l _ _ ⟨w.heap.size+1+1+1+1,0,none⟩ rfl rfl ⟨w.heap.size+1+1+1+1+1+1,0,none⟩ 4 rfl rfl (slc_two _ _ _ _ (by simp [go_sem]) (by simp [go_sem])) (slc_four _ _ l disp d1 d0 HT.out HM4.out (by simp [go_sem]) (by simp [go_sem]) (by simp [go_sem]) (by simp [go_sem])) (by have:=HM4.out;simp;omega) ?_);intro v' w1 hs1 hb1;have HS1:=Lib.hid hs1;have HB1:=Lib.hid (below_step (w:=w) (by repeat (first | exact Below.refl _ _ | (with_reducible refine Below.drew ?_) | (with_reducible refine below_last ?_ _))) hb1);clear hs1 hb1))
            go_ret
            exact Spelled.mk rfl (by simp;omega) HS1.out HB1.out
      · rw [if_pos ⟨rfl,h4⟩]
        have e4:(B == 4)=false:=by simpa using h4
        clear h4
        go_enter Tryz.func84,Tryz.ntmps84
        go_wp2_with fail
        go_region_with (go_at_call 94;(with_reducible refine (HSh.out _).mono ?_);rintro e w' ⟨rfl,rfl⟩)
        all_goals
          go_wp2_with (first
            | (go_at_call 82;(with_reducible refine (HJ1.out _).mono ?_);rintro e w' ⟨rfl,rfl⟩)
            | (go_at_call 96;(with_reducible refine (HSp.out _).mono ?_);rintro e w' ⟨rfl,rfl⟩)
            | (go_at_call 97;(with_reducible refine (HA.out _).mono ?_);rintro e w' ⟨rfl,rfl⟩)
            | (at_builtin;go_loud (refine append_more rfl (.tmp 37) (.tmp 41) rfl [md * 64+reg * 8+B] l _ _ ⟨w.heap.size+1+1,0,none⟩ rfl rfl ⟨w.heap.size+1+1+1+1,0,none⟩ 4 rfl rfl (slc_one _ _ _ (by simp [go_sem])) (slc_four _ _ l disp d1 d0 HT.out HM4.out (by simp [go_sem]) (by simp [go_sem]) (by simp [go_sem]) (by simp [go_sem])) (by have:=HM4.out;simp;omega) ?_);intro v' w1 hs1 hb1;have HS1:=Lib.hid hs1;have HB1:=Lib.hid (below_step (w:=w) (by repeat (first | exact Below.refl _ _ | (with_reducible refine Below.drew ?_) | (with_reducible refine below_last ?_ _))) hb1);clear hs1 hb1))
          go_ret
          exact Spelled.mk rfl (by simp;omega) HS1.out HB1.out
    · rw [if_neg (by rintro ⟨h,_⟩;exact hi h)]
      have ei:(index != -1)=true:=by simpa using hi
      clear hi
      go_enter Tryz.func84,Tryz.ntmps84
      go_wp2_with fail
      go_region_with (go_at_call 94;(with_reducible refine (HSh.out _).mono ?_);rintro e w' ⟨rfl,rfl⟩)
      all_goals
        go_wp2_with (go_at_call 82;(with_reducible refine (HJ1.out _).mono ?_);rintro e w' ⟨rfl,rfl⟩)
        go_region_with (first | (go_at_call 82;(with_reducible refine (HJ2.out _).mono ?_);rintro e w' ⟨rfl,rfl⟩) | (go_at_call 95;(with_reducible refine (HSe.out _).mono ?_);rintro e w' ⟨rfl,rfl⟩))
        all_goals
          go_wp2_with (first
            | (go_at_call 96;(with_reducible refine (HSp.out _).mono ?_);rintro e w' ⟨rfl,rfl⟩)
            | (go_at_call 97;(with_reducible refine (HA.out _).mono ?_);rintro e w' ⟨rfl,rfl⟩)
            | (at_builtin;go_loud (refine append_more rfl (.tmp 37) (.tmp 41) rfl [md * 64+reg * 8+4,Y] l _ _ ⟨w.heap.size+1+1+1+1,0,none⟩ rfl rfl ⟨w.heap.size+1+1+1+1+1+1,0,none⟩ 4 rfl rfl (slc_two _ _ _ _ (by simp [go_sem]) (by simp [go_sem])) (slc_four _ _ l disp d1 d0 HT.out HM4.out (by simp [go_sem]) (by simp [go_sem]) (by simp [go_sem]) (by simp [go_sem])) (by have:=HM4.out;simp;omega) ?_);intro v' w1 hs1 hb1;have HS1:=Lib.hid hs1;have HB1:=Lib.hid (below_step (w:=w) (by repeat (first | exact Below.refl _ _ | (with_reducible refine Below.drew ?_) | (with_reducible refine below_last ?_ _))) hb1);clear hs1 hb1))
          go_ret
          exact Spelled.mk rfl (by simp;omega) HS1.out HB1.out
end Go.Proofs.YtlnahkkemjgjbaaGreat
