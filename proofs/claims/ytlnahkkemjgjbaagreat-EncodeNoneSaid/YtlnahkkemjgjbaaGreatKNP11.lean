import Derived.Test.YtlnahkkemjgjbaaGreatKNB11
import Derived.Test.YtlnahkkemjgjbaaGreatKNModrm
namespace Go.Proofs.YtlnahkkemjgjbaaGreat
open Go.ChangeShapes Go.WideShapes Go.ChangeAt Go.RowKit
theorem rin_any (v a b:Int) (w:World):Calls Tryz.prog 61 #[.int .i64 v,.int .i64 a,.int .i64 b] w fun e w'=>e=.returned (.bool (decide (a ≤ v∧v ≤ b)))∧w=w':=by
  by_cases h0:a ≤ v
  · by_cases h7:v ≤ b
    · rw [show decide (a ≤ v∧v ≤ b)=true by simp [h0,h7]]
      have e0:decide (v ≥ a)=true:=by simpa using h0
      have e0':decide (a ≤ v)=true:=by simpa using h0
      have e7:decide (v ≤ b)=true:=by simpa using h7
      go_enter Tryz.func61,Tryz.ntmps61
      go_wp2
      go_ret
      simp
    · rw [show decide (a ≤ v∧v ≤ b)=false by simp [h7]]
      have e0:decide (v ≥ a)=true:=by simpa using h0
      have e0':decide (a ≤ v)=true:=by simpa using h0
      have e7:decide (v ≤ b)=false:=by simpa using h7
      go_enter Tryz.func61,Tryz.ntmps61
      go_wp2
      go_ret
      simp
  · rw [show decide (a ≤ v∧v ≤ b)=false by simp [h0]]
    have e0:decide (v ≥ a)=false:=by simpa using h0
    have e0':decide (a ≤ v)=false:=by simpa using h0
    go_enter Tryz.func61,Tryz.ntmps61
    go_wp2
    go_ret
    simp
theorem rput4_any (v:Int) (v0:0 ≤ v) (v1:v < 4294967296) (w:World):Calls Tryz.prog 43 #[.int .u32 v] w fun e w'=>e=.returned (.slice (some ⟨w.heap.size,0,none⟩) 4 4)∧w'=w.alloc (.cells #[.int .u8 (v % 256),.int .u8 (v / 256 % 256),.int .u8 (v / 65536 % 256),.int .u8 (v / 16777216)] 5):=by
  have e3:v / 16777216 % 256=v / 16777216:=by omega
  go_enter Tryz.func43,Tryz.ntmps43
  go_wp2
  go_returns
  exact ⟨rfl,by first | rfl | rw [e3]⟩
set_option maxRecDepth 100000
set_option maxHeartbeats 8000000
theorem rright_any (o:Opd) (w:World):Calls Tryz.prog 63 #[opV o] w fun e w'=>e=.returned (.bool (decide (memOk o)))∧Below w.heap.size w w':=by
  obtain ⟨kind,rg,base,index,scale,disp⟩:=o
  unfold opV
  obtain ⟨M,hM⟩:∃ M,M=decide (memOk ⟨kind,rg,base,index,scale,disp⟩):=⟨_,rfl⟩
  show Calls _ _ _ _ fun e w'=>e=.returned (.bool (decide (memOk ⟨kind,rg,base,index,scale,disp⟩)))∧_
  rw [← hM]
  have HM:=Lib.hid hM
  have hB:=Lib.hid ((Below.refl w.heap.size w).alloc (Nat.le_refl _) (.cells #[.int .i64 kind,.int .i64 rg,.int .i64 base,.int .i64 index,.int .i64 scale,.int .u32 disp] 24))
  have HI:=Lib.hid rin_any
  clear hM
  rcases (show (scale == 1)=true ∨ ((scale == 1)=false∧(scale == 2)=true) ∨ ((scale == 1)=false∧(scale == 2)=false∧(scale == 4)=true) ∨ ((scale == 1)=false∧(scale == 2)=false∧(scale == 4)=false∧(scale == 8)=true) ∨ ((scale == 1)=false∧(scale == 2)=false∧(scale == 4)=false∧(scale == 8)=false) by simp only [beq_iff_eq,beq_eq_false_iff_ne];omega) with s1 | ⟨s1,s2⟩ | ⟨s1,s2,s4⟩ | ⟨s1,s2,s4,s8⟩ | ⟨s1,s2,s4,s8⟩
  all_goals
    rcases (show (kind == 3)=false ∨ ((kind == 3)=true∧(rg == 0)=false) ∨ ((kind == 3)=true∧(rg == 0)=true∧decide (-1 ≤ base∧base ≤ 7)=false) ∨ ((kind == 3)=true∧(rg == 0)=true∧decide (-1 ≤ base∧base ≤ 7)=true∧decide (-1 ≤ index∧index ≤ 7)=false) ∨ ((kind == 3)=true∧(rg == 0)=true∧decide (-1 ≤ base∧base ≤ 7)=true∧decide (-1 ≤ index∧index ≤ 7)=true∧(index != 4)=false) ∨ ((kind == 3)=true∧(rg == 0)=true∧decide (-1 ≤ base∧base ≤ 7)=true∧decide (-1 ≤ index∧index ≤ 7)=true∧(index != 4)=true∧(index != -1)=false) ∨ ((kind == 3)=true∧(rg == 0)=true∧decide (-1 ≤ base∧base ≤ 7)=true∧decide (-1 ≤ index∧index ≤ 7)=true∧(index != 4)=true∧(index != -1)=true) by simp only [beq_iff_eq,beq_eq_false_iff_ne,bne_iff_ne,decide_eq_true_iff,decide_eq_false_iff_not,bne_eq_false_iff_eq];omega) with k1 | ⟨k1,k2⟩ | ⟨k1,k2,k3⟩ | ⟨k1,k2,k3,k4⟩ | ⟨k1,k2,k3,k4,k5⟩ | ⟨k1,k2,k3,k4,k5,k6⟩ | ⟨k1,k2,k3,k4,k5,k6⟩
    all_goals
      go_enter Tryz.func63,Tryz.ntmps63
      go_wp2_with (go_at_call 61;refine (HI.out _ _ _ _).mono ?_;rintro e w' ⟨rfl,rfl⟩)
      go_ret
      refine ⟨?_,hB.out⟩
      rw [HM.out]
      simp only [beq_iff_eq,beq_eq_false_iff_ne,bne_iff_ne,decide_eq_true_iff,decide_eq_false_iff_not,bne_eq_false_iff_eq] at *
      first
        | (rw [decide_eq_true (by unfold memOk;dsimp only;omega)];rfl)
        | (rw [decide_eq_false (by unfold memOk;dsimp only;omega)];rfl)
set_option maxRecDepth 512
theorem rin_is {v a b:Int} {B:Bool} (h:decide (a ≤ v∧v ≤ b)=B) (w:World):Calls Tryz.prog 61 #[.int .i64 v,.int .i64 a,.int .i64 b] w fun e w'=>e=.returned (.bool B)∧w=w':=by
  subst h
  exact rin_any v a b w
set_option maxRecDepth 100000
theorem rplain_any (o:Opd) (w:World):Calls Tryz.prog 62 #[opV o] w fun e w'=>e=.returned (.bool (decide (regOk o)))∧Below w.heap.size w w':=by
  obtain ⟨kind,rg,base,index,scale,disp⟩:=o
  by_cases ho:0 ≤ rg∧rg ≤ 7
  · have HI:=Lib.hid (fun u=>rin_is (decide_eq_true ho) u)
    have HRg:=Lib.hid (rregister_any 1 rg)
    have hq:∀ u,(binOp .eql 24 (opV ⟨kind,rg,base,index,scale,disp⟩) (.agg #[.int .i64 1,.int .i64 rg,.int .i64 (-1),.int .i64 (-1),.int .i64 1,.int .u32 0])).run Tryz.prog u=.ok (.bool (decide (regOk ⟨kind,rg,base,index,scale,disp⟩))) u:=fun u=>by
      unfold opV
      rw [opd_eql,show (kind == 1 && (rg == rg && (base == -1 && (index == -1 && (scale == 1 && disp == 0)))))=decide (regOk ⟨kind,rg,base,index,scale,disp⟩) from ?_]
      rw [Bool.eq_iff_iff,decide_eq_true_iff]
      unfold regOk
      dsimp only
      simp only [Bool.and_eq_true,beq_iff_eq,Opd.mk.injEq]
      exact ⟨fun h=>⟨ho.1,ho.2,h.1,trivial,h.2.2⟩,fun h=>⟨h.2.2.1,trivial,h.2.2.2.2⟩⟩
    generalize decide (regOk ⟨kind,rg,base,index,scale,disp⟩)=K at *
    unfold opV at hq ⊢
    clear ho
    go_enter Tryz.func62,Tryz.ntmps62
    go_wp2_with fail
    go_region_with (first | (go_at_call 61;(with_reducible refine (HI.out _).mono ?_);rintro e w' ⟨rfl,rfl⟩) | (go_at_call 7;(with_reducible refine (HRg.out _).mono ?_);rintro e w' ⟨rfl,rfl⟩))
    all_goals
      go_wp2_with fail
      go_returns
      exact ⟨rfl,by repeat (first | exact Below.refl _ _ | (with_reducible refine below_drN ?_ _) | (with_reducible refine Below.drew ?_) | (with_reducible refine below_last ?_ _))⟩
  · have HI:=Lib.hid (fun u=>rin_is (decide_eq_false ho) u)
    rw [decide_eq_false (fun h=>ho ⟨h.1,h.2.1⟩)]
    unfold opV
    clear ho
    go_enter Tryz.func62,Tryz.ntmps62
    go_wp2_with fail
    have HQ:=Lib.hid (fun u=>(HI.out u).mono (fun e w' (h:_∧u=w')=>(⟨h.1,h.2.symm⟩:_∧w'=u)))
    refine wp_region_quiet_lit (by kernel_rfl) (by kernel_rfl) ?_
    repeat (any_goals (first | go_big_quiet_step ((go_at_call 61;exact Calls.quiet_of_same (HQ.out _))) | quiet_step ((go_at_call 61;exact Calls.quiet_of_same (HQ.out _))) | (refine wpQuiet_step (fun K hK=>?_);go_simp;split <;> (refine hK _ ?_;clear hK K))))
    all_goals (refine wpQuiet_nil ?_;intro _ hw';obtain ⟨nq,hw''⟩:=hw';subst hw'')
    all_goals
      go_wp2_with fail
      go_returns
      exact ⟨rfl,by repeat (first | exact Below.refl _ _ | (with_reducible refine below_drN ?_ _) | (with_reducible refine Below.drew ?_) | (with_reducible refine below_last ?_ _))⟩
set_option maxRecDepth 512
theorem rput_none (reg:Int) (o:Opd) (hr:¬ (0 ≤ reg∧reg ≤ 7)) (w:World):Calls Tryz.prog 44 #[.int .i64 reg,opV o] w (PutTo w [] 22):=by
  have HI:=Lib.hid (fun u=>rin_is (decide_eq_false hr) u)
  unfold opV
  clear hr
  go_enter Tryz.func44,Tryz.ntmps44
  go_wp2_with (go_at_call 61;(with_reducible refine (HI.out _).mono ?_);rintro e w' ⟨rfl,rfl⟩)
  go_returns
  exact PutTo.none rfl (by repeat (first | exact Below.refl _ _ | (with_reducible refine below_drN ?_ _) | (with_reducible refine Below.drew ?_) | (with_reducible refine below_last ?_ _)))
set_option maxRecDepth 100000
theorem rput_reg (reg rg:Int) (hr:0 ≤ reg∧reg ≤ 7) (ho:0 ≤ rg∧rg ≤ 7) (w:World):Calls Tryz.prog 44 #[.int .i64 reg,opV ⟨1,rg,-1,-1,1,0⟩] w (PutTo w [3 * 64+reg * 8+rg] 0):=by
  have HI:=Lib.hid (fun u=>rin_is (decide_eq_true hr) u)
  have HP:=rplain_any ⟨1,rg,-1,-1,1,0⟩
  rw [decide_eq_true (show regOk ⟨1,rg,-1,-1,1,0⟩ from ⟨ho.1,ho.2,rfl⟩)] at HP
  have m1:reg % 256=reg:=by omega
  have m2:reg * 8 % 256=reg * 8:=by omega
  have m3:rg % 256=rg:=by omega
  have o1:bits .or .u8 192 (reg * 8)=reg * 8+192:=or_add8 6 (reg * 8) 3 (by omega) (by show reg * 8 < (64:Int);omega) (by decide) (by show reg * 8+192 < (256:Int);omega)
  have o2:bits .or .u8 (reg * 8+192) rg=3 * 64+reg * 8+rg:=by
    rw [show reg * 8+192=(reg+24) * ((2 ^ 3:Nat):Int) by show _=(reg+24) * 8;omega,or_add8 3 rg (reg+24) ho.1 (by show rg < (8:Int);omega) (by omega) (by show rg+(reg+24) * 8 < (256:Int);omega)]
    show rg+(reg+24) * 8=_
    omega
  unfold opV at HP ⊢
  have HP:=Lib.hid HP
  clear hr ho
  go_enter Tryz.func44,Tryz.ntmps44
  go_wp2_with (go_at_call 61;(with_reducible refine (HI.out _).mono ?_);rintro e w' ⟨rfl,rfl⟩)
  refine (HP.out _).mono ?_
  rintro e w2 ⟨rfl,hb⟩
  obtain ⟨⟨k0,k1,k2,k3,k4,k5⟩,hsz⟩:=six_kept hb
  have HB:=Lib.hid (below_in (w:=w) (by repeat (first | exact Below.refl _ _ | (with_reducible refine below_drN ?_ _) | (with_reducible refine Below.drew ?_) | (with_reducible refine below_last ?_ _))) hb)
  clear hb
  go_wp2_with fail
  go_returns
  exact PutTo.row rfl rfl (slc_one _ _ _ (by simp [go_sem])) (by repeat (first | exact HB.out | (with_reducible refine below_drN ?_ _) | (with_reducible refine Below.drew ?_) | (with_reducible refine below_last ?_ _)))
theorem rput_wrong (reg:Int) (o:Opd) (hr:0 ≤ reg∧reg ≤ 7) (hk:¬ regOk o) (hm:¬ memOk o) (w:World):Calls Tryz.prog 44 #[.int .i64 reg,opV o] w (PutTo w [] 22):=by
  have HI:=Lib.hid (fun u=>rin_is (decide_eq_true hr) u)
  have HP:=rplain_any o
  have HM:=rright_any o
  rw [decide_eq_false hk] at HP
  rw [decide_eq_false hm] at HM
  have m1:reg % 256=reg:=by omega
  have m2:reg * 8 % 256=reg * 8:=by omega
  obtain ⟨kind,rg,base,index,scale,disp⟩:=o
  unfold opV at HP HM ⊢
  have HP:=Lib.hid HP
  have HM:=Lib.hid HM
  clear hr hk hm
  go_enter Tryz.func44,Tryz.ntmps44
  go_wp2_with (go_at_call 61;(with_reducible refine (HI.out _).mono ?_);rintro e w' ⟨rfl,rfl⟩)
  refine (HP.out _).mono ?_
  rintro e w2 ⟨rfl,hb⟩
  obtain ⟨⟨k0,k1,k2,k3,k4,k5⟩,hsz⟩:=six_kept hb
  have HB:=Lib.hid (below_in (w:=w) (by repeat (first | exact Below.refl _ _ | (with_reducible refine below_drN ?_ _) | (with_reducible refine Below.drew ?_) | (with_reducible refine below_last ?_ _))) hb)
  clear hb
  go_wp2_with fail
  refine (HM.out _).mono ?_
  rintro e w3 ⟨rfl,hb⟩
  have HB2:=Lib.hid (below_step HB.out hb)
  clear hb
  go_wp2_with fail
  go_returns
  exact PutTo.none rfl HB2.out
set_option maxRecDepth 512
theorem six_on {w w2:World} {B:Nat} {a b c d e f:Value} (h:w.cell? ⟨B,0,none⟩=some a∧w.cell? ⟨B,1,none⟩=some b∧w.cell? ⟨B,2,none⟩=some c∧w.cell? ⟨B,3,none⟩=some d∧w.cell? ⟨B,4,none⟩=some e∧w.cell? ⟨B,5,none⟩=some f) (hb:Below w.heap.size w w2) :
    w2.cell? ⟨B,0,none⟩=some a∧w2.cell? ⟨B,1,none⟩=some b∧w2.cell? ⟨B,2,none⟩=some c∧w2.cell? ⟨B,3,none⟩=some d∧w2.cell? ⟨B,4,none⟩=some e∧w2.cell? ⟨B,5,none⟩=some f:=by
  obtain ⟨h0,h1,h2,h3,h4,h5⟩:=h
  exact ⟨(hb.cell (cell_lt h0)).trans h0,(hb.cell (cell_lt h1)).trans h1,(hb.cell (cell_lt h2)).trans h2,(hb.cell (cell_lt h3)).trans h3,(hb.cell (cell_lt h4)).trans h4,(hb.cell (cell_lt h5)).trans h5⟩
theorem ownz_1 {w:World} {base:Nat} (hb:base ≤ w.heap.size) (x:Int):OwnZ (w.alloc (.cells #[.int .u8 x] 5)) base (.slice (some ⟨w.heap.size,0,none⟩) 1 1) [x] :=
  .inr (OwnB.made w base hb #[.int .u8 x] 5 (0,0) [x] (by show 1 ≤ maxLen;decide) (by simp) (fun i hi=>by
    have h:i=0:=by simp at hi;omega
    subst h
    rfl) (.inl rfl) 1 rfl)
theorem ownz_2 {w:World} {base:Nat} (hb:base ≤ w.heap.size) (x y:Int):OwnZ (w.alloc (.cells #[.int .u8 x,.int .u8 y] 5)) base (.slice (some ⟨w.heap.size,0,none⟩) 2 2) [x,y] :=
  .inr (OwnB.made w base hb #[.int .u8 x,.int .u8 y] 5 (0,0) [x,y] (by show 2 ≤ maxLen;decide) (by simp) (fun i hi=>by
    rcases (show i=0 ∨ i=1 by simp at hi;omega) with rfl | rfl <;> rfl) (.inl rfl) 2 rfl)
theorem addB_4 (o:Opd):(addB o).length ≤ 4:=by
  unfold addB
  split
  · simp [bytes4]
  · split
    · simp
    · split <;> simp [bytes4]
set_option maxRecDepth 100000
set_option maxHeartbeats 16000000
theorem rput_mem (reg:Int) (o:Opd) (d0:0 ≤ o.disp) (d1:o.disp < 4294967296) (hr:0 ≤ reg∧reg ≤ 7) (hk:¬ regOk o) (hm:memOk o) (w:World):Calls Tryz.prog 44 #[.int .i64 reg,opV o] w (PutTo w (putF reg o) 0):=by
  have HI:=Lib.hid (fun u=>rin_is (decide_eq_true hr) u)
  have HP:=rplain_any o
  have HM:=rright_any o
  rw [decide_eq_false hk] at HP
  rw [decide_eq_true hm] at HM
  have m1:reg % 256=reg:=by omega
  have m2:reg * 8 % 256=reg * 8:=by omega
  obtain ⟨hk3,hrg,hb0,hb1,hi0,hi1,hi4,hsc,his⟩:=hm
  have ham:=addM_ok o
  have hl4:=addB_4 o
  have hP:putF reg o=if o.index=-1∧o.base ≠ 4 then [addM o * 64+reg * 8+(if o.base=-1 then 5 else o.base)] ++ addB o else [addM o * 64+reg * 8+4,(if o.index=-1 then 32 else log9 o.scale * 64+o.index * 8)+(if o.base=-1 then 5 else o.base)] ++ addB o:=by
    unfold putF
    rw [if_neg (by rw [hk3];decide)]
    by_cases hc:o.index=-1∧o.base ≠ 4
    · rw [if_pos hc,if_pos hc];rfl
    · rw [if_neg hc,if_neg hc]
      by_cases hi:o.index=-1
      · rw [if_pos hi];rfl
      · rw [if_neg hi];rfl
  generalize putF reg o=P at *
  have hAM:addM o=if o.base=-1 then 0 else if o.disp=0∧o.base ≠ 5 then 0 else if sx9 (o.disp % 256)=o.disp then 1 else 2:=rfl
  have hAB:addB o=if o.base=-1 then bytes4 o.disp else if o.disp=0∧o.base ≠ 5 then [] else if sx9 (o.disp % 256)=o.disp then [o.disp % 256] else bytes4 o.disp:=rfl
  obtain ⟨md,hmd⟩:∃ md,addM o=md:=⟨_,rfl⟩
  obtain ⟨l,hl⟩:∃ l,addB o=l:=⟨_,rfl⟩
  rw [hmd] at hAM ham hP
  rw [hl] at hAB hl4 hP
  obtain ⟨kind,rg,base,index,scale,disp⟩:=o
  unfold opV at HP HM ⊢
  have HP:=Lib.hid HP
  have HM:=Lib.hid HM
  have HAM:=Lib.hid hAM
  have HPe:=Lib.hid hP
  have HAB:=Lib.hid hAB
  have HSX:=Lib.hid (rsx_any (disp % 256) (by omega) (by omega))
  have HSY:=Lib.hid (show ∀ u,Calls Tryz.prog 31 #[.int .u8 (IntKind.u8.wrap disp)] u fun e w'=>e=.returned (.int .u32 (sx9 (disp % 256)))∧w'=u by rw [IntKind.wrap_u8];exact rsx_any (disp % 256) (by omega) (by omega))
  have HP4:=Lib.hid (rput4_any disp d0 d1)
  dsimp only at d0 d1 hi0 hi1 hi4 hsc his hb0 hb1 ⊢
  have HD:=Lib.hid (And.intro d0 d1)
  have HX:=Lib.hid (And.intro hi4 (And.intro hsc his))
  have HR:=Lib.hid hr
  clear hr hk hk3 hrg hP hAM hAB hmd hl hi4 hsc his d0 d1
  go_enter Tryz.func44,Tryz.ntmps44
  go_wp2_with (go_at_call 61;(with_reducible refine (HI.out _).mono ?_);rintro e w' ⟨rfl,rfl⟩)
  refine (HP.out _).mono ?_
  rintro e w2 ⟨rfl,hb⟩
  obtain ⟨⟨k0,k1,k2,k3,k4,k5⟩,hsz⟩:=six_kept hb
  have HB:=Lib.hid (below_in (w:=w) (by repeat (first | exact Below.refl _ _ | (with_reducible refine below_drN ?_ _) | (with_reducible refine Below.drew ?_) | (with_reducible refine below_last ?_ _))) hb)
  clear hb
  go_wp2_with fail
  refine (HM.out _).mono ?_
  rintro e w3 ⟨rfl,hb⟩
  obtain ⟨k0,k1,k2,k3,k4,k5⟩:=six_on ⟨k0,k1,k2,k3,k4,k5⟩ hb
  have HB2:=Lib.hid (below_step HB.out hb)
  have hsz3:w.heap.size < w3.heap.size:=Nat.lt_of_lt_of_le hsz hb.size
  clear hb
  go_upto_block 0 with (go_at_call 43;(with_reducible refine (HP4.out _).mono ?_);rintro e w' ⟨rfl,rfl⟩)
  go_cut [7,8] (fun s7 s8 wx=>s7=.int .u8 md∧Slc .u8 wx s8 l.length (lst l)∧Below w3.heap.size w3 wx)
  case first =>
    by_cases h1:base=-1
    · have e1:(base == -1)=true:=by simp [h1]
      have q1:md=0:=by rw [HAM.out,if_pos h1]
      have q2:l=bytes4 disp:=by rw [HAB.out,if_pos h1]
      clear h1
      go_wp2_with fail
      go_meet
      refine ⟨by rw [q1],?_,below_last (Below.refl _ _) _⟩
      rw [q2]
      exact slc_four _ _ (bytes4 disp) disp HD.out.2 HD.out.1 rfl (Nat.le_refl _) (by simp [go_sem]) (by simp [go_sem]) (by simp [go_sem]) (by simp [go_sem])
    have e1:(base == -1)=false:=by simp [h1]
    by_cases h2:disp=0∧base ≠ 5
    · have e2:(disp == 0)=true:=by simp [h2.1]
      have e3:(base != 5)=true:=by simp [h2.2]
      have q1:md=0:=by rw [HAM.out,if_neg h1,if_pos h2]
      have q2:l=[]:=by rw [HAB.out,if_neg h1,if_pos h2]
      clear h1 h2
      go_wp2_with fail
      go_meet
      exact ⟨by rw [q1],by rw [q2];exact .inl ⟨rfl,rfl⟩,below_last (Below.refl _ _) _⟩
    by_cases h3:sx9 (disp % 256)=disp
    · have e4:(sx9 (disp % 256) == disp)=true:=by simp [h3]
      have q1:md=1:=by rw [HAM.out,if_neg h1,if_neg h2,if_pos h3]
      have q2:l=[disp % 256]:=by rw [HAB.out,if_neg h1,if_neg h2,if_pos h3]
      rcases (show (disp == 0)=false ∨ ((disp == 0)=true∧(base != 5)=false) by simp;omega) with e2 | ⟨e2,e3⟩
      all_goals
        clear h1 h2 h3
        go_wp2_with fail
        go_region_with (first | (go_at_call 31;(with_reducible refine (HSX.out _).mono ?_);rintro e w' ⟨rfl,rfl⟩) | (go_at_call 31;(with_reducible refine (HSY.out _).mono ?_);rintro e w' ⟨rfl,rfl⟩))
        all_goals
          go_wp2_with fail
          go_region
          all_goals
            go_wp2_with fail
            go_meet
            refine ⟨by rw [q1],?_,by repeat (first | exact Below.refl _ _ | (with_reducible refine below_drN ?_ _) | (with_reducible refine Below.drew ?_) | (with_reducible refine below_last ?_ _))⟩
            rw [q2]
            exact slc_one _ _ _ (by first | (simp [go_sem];done) | (simp [go_sem,IntKind.wrap_u8]))
    · have e4:(sx9 (disp % 256) == disp)=false:=by simp [h3]
      have q1:md=2:=by rw [HAM.out,if_neg h1,if_neg h2,if_neg h3]
      have q2:l=bytes4 disp:=by rw [HAB.out,if_neg h1,if_neg h2,if_neg h3]
      rcases (show (disp == 0)=false ∨ ((disp == 0)=true∧(base != 5)=false) by simp;omega) with e2 | ⟨e2,e3⟩
      all_goals
        clear h1 h2 h3
        go_wp2_with fail
        go_region_with (first | (go_at_call 31;(with_reducible refine (HSX.out _).mono ?_);rintro e w' ⟨rfl,rfl⟩) | (go_at_call 31;(with_reducible refine (HSY.out _).mono ?_);rintro e w' ⟨rfl,rfl⟩))
        all_goals
          go_wp2_with fail
          go_meet
          refine ⟨by rw [q1],?_,by repeat (first | exact Below.refl _ _ | (with_reducible refine below_drN ?_ _) | (with_reducible refine Below.drew ?_) | (with_reducible refine below_last ?_ _))⟩
          rw [q2]
          exact slc_four _ _ (bytes4 disp) disp HD.out.2 HD.out.1 rfl (Nat.le_refl _) (by simp [go_sem]) (by simp [go_sem]) (by simp [go_sem]) (by simp [go_sem])
  case rest =>
  obtain ⟨rfl,hs,hb⟩:=hcut
  obtain ⟨k0,k1,k2,k3,k4,k5⟩:=six_on ⟨k0,k1,k2,k3,k4,k5⟩ hb
  have HB3:=Lib.hid (below_step HB2.out hb)
  have hle:w.heap.size ≤ wc.heap.size:=HB3.out.size
  have HS:=Lib.hid hs
  clear hs hb hsz hsz3
  obtain ⟨hr0,hr1⟩:=HR.out
  have mm:md * 64 % 256=md * 64:=by omega
  have o1:bits .or .u8 (md * 64) (reg * 8)=reg * 8+md * 64:=or_add8 6 (reg * 8) md (by omega) (by show reg * 8 < (64:Int);omega) (by omega) (by show reg * 8+md * 64 < (256:Int);omega)
  have o4:bits .or .u8 (reg * 8+md * 64) 4=md * 64+reg * 8+4:=by
    rw [show reg * 8+md * 64=(reg+md * 8) * ((2 ^ 3:Nat):Int) by show _=(reg+md * 8) * 8;omega,or_add8 3 4 (reg+md * 8) (by decide) (by decide) (by omega) (by show 4+(reg+md * 8) * 8 < (256:Int);omega)]
    show 4+(reg+md * 8) * 8=_
    omega
  obtain ⟨B,hB⟩:∃ B,(if base=-1 then 5 else base)=B:=⟨_,rfl⟩
  have hB0:0 ≤ B∧B < 8:=by rw [← hB];split <;> omega
  have hB1:base=-1∧B=5 ∨ base ≠ -1∧B=base:=by
    by_cases h:base=-1
    · rw [if_pos h] at hB;exact .inl ⟨h,hB.symm⟩
    · rw [if_neg h] at hB;exact .inr ⟨h,hB.symm⟩
  have hB:=Lib.hid hB
  have o2:bits .or .u8 (reg * 8+md * 64) B=md * 64+reg * 8+B:=by
    rw [show reg * 8+md * 64=(reg+md * 8) * ((2 ^ 3:Nat):Int) by show _=(reg+md * 8) * 8;omega,or_add8 3 B (reg+md * 8) hB0.1 (by show B < (8:Int);omega) (by omega) (by show B+(reg+md * 8) * 8 < (256:Int);omega)]
    show B+(reg+md * 8) * 8=_
    omega
  have o3:bits .or .u8 32 B=32+B:=(show bits .or .u8 32 B=B+32 from or_add8 5 B 1 hB0.1 (by show B < (32:Int);omega) (by decide) (by show B+32 < (256:Int);omega)).trans (by omega)
  go_upto_if 60 with (fail)
  go_cut [9] (fun s9 wx=>s9=.int .u8 B∧wc=wx)
  case first =>
    go_wp2_with fail
    all_goals
      go_meet
      exact ⟨congrArg (Value.int .u8) (by omega),rfl⟩
  case rest =>
  obtain ⟨rfl,rfl⟩:=hcut
  clear hB1
  by_cases hi:index=-1
  · by_cases h4:base=4
    · have e1:(index == -1)=true:=by simp [hi]
      have e2:(base != 4)=false:=by simp [h4]
      have e3:decide (index ≥ 0)=false:=decide_eq_false (by omega)
      have e4:decide (0 ≤ index)=false:=decide_eq_false (by omega)
      have hP:=HPe.out
      rw [if_neg (fun h=>h.2 h4),if_pos hi,hB.out] at hP
      have HPe:=Lib.hid hP
      clear hP hi h4
      go_wp2_with (at_builtin;refine append_ownY rfl (.tmp 106) (.tmp 107) rfl w.heap.size _ _ [md * 64+reg * 8+4,32+B] l rfl rfl (ownz_2 (by omega) _ _) (HS.out.below (below_last (Below.refl _ _) _)) (by simp;omega) (by simp;omega) ?_;intro v' w' hv hw hs;have HV:=Lib.hid hv;have HW:=Lib.hid (hw w (below_last HB3.out _));clear hv hw hs)
      go_returns
      exact ⟨_,rfl,by rw [HPe.out];exact HV.out.slc,HW.out⟩
    · have e1:(index == -1)=true:=by simp [hi]
      have e2:(base != 4)=true:=by simp [h4]
      have hP:=HPe.out
      rw [if_pos ⟨hi,h4⟩,hB.out] at hP
      have HPe:=Lib.hid hP
      clear hP hi h4
      go_wp2_with (at_builtin;refine append_ownY rfl (.tmp 78) (.tmp 79) rfl w.heap.size _ _ [md * 64+reg * 8+B] l rfl rfl (ownz_1 (by omega) _) (HS.out.below (below_last (Below.refl _ _) _)) (by simp;omega) (by simp;omega) ?_;intro v' w' hv hw hs;have HV:=Lib.hid hv;have HW:=Lib.hid (hw w (below_last HB3.out _));clear hv hw hs)
      go_returns
      exact ⟨_,rfl,by rw [HPe.out];exact HV.out.slc,HW.out⟩
  have e1:(index == -1)=false:=by simp [hi]
  have e3:decide (index ≥ 0)=true:=decide_eq_true (by omega)
  have e4:decide (0 ≤ index)=true:=decide_eq_true (by omega)
  have e5:index % 256=index:=by omega
  have e6:index * 8 % 256=index * 8:=by omega
  obtain ⟨hi4,hsc,_⟩:=HX.out
  rcases hsc with rfl | rfl | rfl | rfl
  · have hP:=HPe.out
    obtain ⟨V2,hV2⟩:∃ V2,0 * 64+index * 8+B=V2:=⟨_,rfl⟩
    rw [if_neg (fun h=>hi h.1),if_neg hi,hB.out,show log9 1=0 from rfl,hV2] at hP
    have HPe:=Lib.hid hP
    have o5:bits .or .u8 0 (index * 8)=index * 8:=(show bits .or .u8 0 (index * 8)=index * 8+0 from or_add8 6 (index * 8) 0 (by omega) (by show index * 8 < (64:Int);omega) (by decide) (by show index * 8+0 < (256:Int);omega)).trans (by omega)
    have o6:bits .or .u8 (index * 8) B=V2:=by
      rw [show index * 8=(index+0) * ((2 ^ 3:Nat):Int) by show _=(index+0) * 8;omega,or_add8 3 B (index+0) hB0.1 (by show B < (8:Int);omega) (by omega) (by show B+(index+0) * 8 < (256:Int);omega)]
      show B+(index+0) * 8=_
      omega
    clear hP hi hi4 hB0 ham hV2
    go_wp2_with fail
    go_loopw [11] (fun v11 wr=>wr=wc∧∃ k:Nat,k ≤ 0∧v11=.int .u8 k) (fun v11 _=>0 - (intOf v11).toNat)
    case atStart=>exact ⟨rfl,0,by decide,rfl⟩
    case round =>
      obtain ⟨rfl,k,hk,rfl⟩:=hrel
      rcases (show k=0 by omega) with rfl
      · go_wp2_with (at_builtin;refine append_ownY rfl (.tmp 106) (.tmp 107) rfl w.heap.size _ _ [md * 64+reg * 8+4,V2] l rfl rfl (ownz_2 (by omega) _ _) (HS.out.below (below_last (Below.refl _ _) _)) (by simp;omega) (by simp;omega) ?_;intro v' w' hv hw hs;have HV:=Lib.hid hv;have HW:=Lib.hid (hw w (below_last HB3.out _));clear hv hw hs)
        go_returns
        exact ⟨_,rfl,by rw [HPe.out];exact HV.out.slc,HW.out⟩
  · have hP:=HPe.out
    obtain ⟨V2,hV2⟩:∃ V2,1 * 64+index * 8+B=V2:=⟨_,rfl⟩
    rw [if_neg (fun h=>hi h.1),if_neg hi,hB.out,show log9 2=1 from rfl,hV2] at hP
    have HPe:=Lib.hid hP
    have o5:bits .or .u8 64 (index * 8)=index * 8+64:=(show bits .or .u8 64 (index * 8)=index * 8+64 from or_add8 6 (index * 8) 1 (by omega) (by show index * 8 < (64:Int);omega) (by decide) (by show index * 8+64 < (256:Int);omega)).trans (by omega)
    have o6:bits .or .u8 (index * 8+64) B=V2:=by
      rw [show index * 8+64=(index+8) * ((2 ^ 3:Nat):Int) by show _=(index+8) * 8;omega,or_add8 3 B (index+8) hB0.1 (by show B < (8:Int);omega) (by omega) (by show B+(index+8) * 8 < (256:Int);omega)]
      show B+(index+8) * 8=_
      omega
    clear hP hi hi4 hB0 ham hV2
    go_wp2_with fail
    go_loopw [11] (fun v11 wr=>wr=wc∧∃ k:Nat,k ≤ 1∧v11=.int .u8 k) (fun v11 _=>1 - (intOf v11).toNat)
    case atStart=>exact ⟨rfl,0,by decide,rfl⟩
    case round =>
      obtain ⟨rfl,k,hk,rfl⟩:=hrel
      rcases (show k=0 ∨ k=1 by omega) with rfl | rfl
      · go_wp2_with fail
        go_roundw
        case rel=>exact ⟨trivial,1,by decide,rfl⟩
        case measure=>decide
      · go_wp2_with (at_builtin;refine append_ownY rfl (.tmp 106) (.tmp 107) rfl w.heap.size _ _ [md * 64+reg * 8+4,V2] l rfl rfl (ownz_2 (by omega) _ _) (HS.out.below (below_last (Below.refl _ _) _)) (by simp;omega) (by simp;omega) ?_;intro v' w' hv hw hs;have HV:=Lib.hid hv;have HW:=Lib.hid (hw w (below_last HB3.out _));clear hv hw hs)
        go_returns
        exact ⟨_,rfl,by rw [HPe.out];exact HV.out.slc,HW.out⟩
  · have hP:=HPe.out
    obtain ⟨V2,hV2⟩:∃ V2,2 * 64+index * 8+B=V2:=⟨_,rfl⟩
    rw [if_neg (fun h=>hi h.1),if_neg hi,hB.out,show log9 4=2 from rfl,hV2] at hP
    have HPe:=Lib.hid hP
    have o5:bits .or .u8 128 (index * 8)=index * 8+128:=(show bits .or .u8 128 (index * 8)=index * 8+128 from or_add8 6 (index * 8) 2 (by omega) (by show index * 8 < (64:Int);omega) (by decide) (by show index * 8+128 < (256:Int);omega)).trans (by omega)
    have o6:bits .or .u8 (index * 8+128) B=V2:=by
      rw [show index * 8+128=(index+16) * ((2 ^ 3:Nat):Int) by show _=(index+16) * 8;omega,or_add8 3 B (index+16) hB0.1 (by show B < (8:Int);omega) (by omega) (by show B+(index+16) * 8 < (256:Int);omega)]
      show B+(index+16) * 8=_
      omega
    clear hP hi hi4 hB0 ham hV2
    go_wp2_with fail
    go_loopw [11] (fun v11 wr=>wr=wc∧∃ k:Nat,k ≤ 2∧v11=.int .u8 k) (fun v11 _=>2 - (intOf v11).toNat)
    case atStart=>exact ⟨rfl,0,by decide,rfl⟩
    case round =>
      obtain ⟨rfl,k,hk,rfl⟩:=hrel
      rcases (show k=0 ∨ k=1 ∨ k=2 by omega) with rfl | rfl | rfl
      · go_wp2_with fail
        go_roundw
        case rel=>exact ⟨trivial,1,by decide,rfl⟩
        case measure=>decide
      · go_wp2_with fail
        go_roundw
        case rel=>exact ⟨trivial,2,by decide,rfl⟩
        case measure=>decide
      · go_wp2_with (at_builtin;refine append_ownY rfl (.tmp 106) (.tmp 107) rfl w.heap.size _ _ [md * 64+reg * 8+4,V2] l rfl rfl (ownz_2 (by omega) _ _) (HS.out.below (below_last (Below.refl _ _) _)) (by simp;omega) (by simp;omega) ?_;intro v' w' hv hw hs;have HV:=Lib.hid hv;have HW:=Lib.hid (hw w (below_last HB3.out _));clear hv hw hs)
        go_returns
        exact ⟨_,rfl,by rw [HPe.out];exact HV.out.slc,HW.out⟩
  · have hP:=HPe.out
    obtain ⟨V2,hV2⟩:∃ V2,3 * 64+index * 8+B=V2:=⟨_,rfl⟩
    rw [if_neg (fun h=>hi h.1),if_neg hi,hB.out,show log9 8=3 from rfl,hV2] at hP
    have HPe:=Lib.hid hP
    have o5:bits .or .u8 192 (index * 8)=index * 8+192:=(show bits .or .u8 192 (index * 8)=index * 8+192 from or_add8 6 (index * 8) 3 (by omega) (by show index * 8 < (64:Int);omega) (by decide) (by show index * 8+192 < (256:Int);omega)).trans (by omega)
    have o6:bits .or .u8 (index * 8+192) B=V2:=by
      rw [show index * 8+192=(index+24) * ((2 ^ 3:Nat):Int) by show _=(index+24) * 8;omega,or_add8 3 B (index+24) hB0.1 (by show B < (8:Int);omega) (by omega) (by show B+(index+24) * 8 < (256:Int);omega)]
      show B+(index+24) * 8=_
      omega
    clear hP hi hi4 hB0 ham hV2
    go_wp2_with fail
    go_loopw [11] (fun v11 wr=>wr=wc∧∃ k:Nat,k ≤ 3∧v11=.int .u8 k) (fun v11 _=>3 - (intOf v11).toNat)
    case atStart=>exact ⟨rfl,0,by decide,rfl⟩
    case round =>
      obtain ⟨rfl,k,hk,rfl⟩:=hrel
      rcases (show k=0 ∨ k=1 ∨ k=2 ∨ k=3 by omega) with rfl | rfl | rfl | rfl
      · go_wp2_with fail
        go_roundw
        case rel=>exact ⟨trivial,1,by decide,rfl⟩
        case measure=>decide
      · go_wp2_with fail
        go_roundw
        case rel=>exact ⟨trivial,2,by decide,rfl⟩
        case measure=>decide
      · go_wp2_with fail
        go_roundw
        case rel=>exact ⟨trivial,3,by decide,rfl⟩
        case measure=>decide
      · go_wp2_with (at_builtin;refine append_ownY rfl (.tmp 106) (.tmp 107) rfl w.heap.size _ _ [md * 64+reg * 8+4,V2] l rfl rfl (ownz_2 (by omega) _ _) (HS.out.below (below_last (Below.refl _ _) _)) (by simp;omega) (by simp;omega) ?_;intro v' w' hv hw hs;have HV:=Lib.hid hv;have HW:=Lib.hid (hw w (below_last HB3.out _));clear hv hw hs)
        go_returns
        exact ⟨_,rfl,by rw [HPe.out];exact HV.out.slc,HW.out⟩
set_option maxRecDepth 512
theorem rput_any (reg:Int) (o:Opd) (d0:0 ≤ o.disp) (d1:o.disp < 4294967296) (w:World):Calls Tryz.prog 44 #[.int .i64 reg,opV o] w (PutTo w (if putOk reg o then putF reg o else []) (if putOk reg o then 0 else 22)):=by
  by_cases hr:0 ≤ reg∧reg ≤ 7
  · by_cases hk:regOk o
    · have hp:putOk reg o:=⟨hr.1,by omega,.inl hk⟩
      rw [if_pos hp,if_pos hp]
      obtain ⟨h0,h7,he⟩:=hk
      have hP:putF reg o=[3 * 64+reg * 8+o.reg]:=by unfold putF;rw [if_pos (by rw [he])];simp
      rw [hP]
      have:=rput_reg reg o.reg hr ⟨h0,h7⟩ w
      rwa [← he] at this
    · by_cases hm:memOk o
      · have hp:putOk reg o:=⟨hr.1,by omega,.inr hm⟩
        rw [if_pos hp,if_pos hp]
        exact rput_mem reg o d0 d1 hr hk hm w
      · have hp:¬ putOk reg o:=fun h=>h.2.2.elim hk hm
        rw [if_neg hp,if_neg hp]
        exact rput_wrong reg o hr hk hm w
  · have hp:¬ putOk reg o:=fun h=>hr ⟨h.1,by have:=h.2.1;omega⟩
    rw [if_neg hp,if_neg hp]
    exact rput_none reg o hr w
end Go.Proofs.YtlnahkkemjgjbaaGreat
