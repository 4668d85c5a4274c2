import Derived.Test.YtlnahkkemjgjbaaGreatKNF
namespace Go.Proofs.YtlnahkkemjgjbaaGreat
open Go.ChangeShapes Go.WideShapes Go.ChangeAt Go.RowKit
theorem mnumbered_no (r:Int) (h:r < 0 ∨ 7 < r) (w:World):Calls Tryz.prog 80 #[.int .i64 r] w fun e w'=>e=.returned (.bool false)∧w=w':=by
  have:=mnumbered_any r w
  rwa [show decide (0 ≤ r∧r ≤ 7)=false by simp;omega] at this
set_option maxHeartbeats 1000000
theorem mrright_any (o:Opd) (w:World) :
    Calls Tryz.prog 83 #[opV o] w fun e w'=>e=.returned (.bool (decide (memOk o)))∧Below w.heap.size w w':=by
  obtain ⟨kind,rg,base,index,scale,disp⟩:=o
  unfold opV
  have hB:=Lib.hid ((Below.refl w.heap.size w).alloc (Nat.le_refl _) (.cells #[.int .i64 kind,.int .i64 rg,.int .i64 base,.int .i64 index,.int .i64 scale,.int .u32 disp] 24))
  by_cases hk:kind=3
  · have ek:(kind != 3)=false:=by simpa using hk
    by_cases hr:rg=0
    · have er:(rg != 0)=false:=by simpa using hr
      by_cases hb:-1 ≤ base∧base ≤ 7
      · by_cases hm:base=-1
        · have em:(base != -1)=false:=by simpa using hm
          by_cases hi:index=-1
          · rw [show decide (memOk ⟨kind,rg,base,index,scale,disp⟩)=(scale == 1) by rw [Bool.eq_iff_iff,decide_eq_true_iff,beq_iff_eq];unfold memOk;dsimp only;omega]
            have ei:(index == -1)=true:=by simpa using hi
            clear hi hk hr hb hm
            go_enter Tryz.func83,Tryz.ntmps83
            go_wp2
            go_ret
            exact ⟨rfl,hB.out⟩
          · have ei:(index == -1)=false:=by simpa using hi
            by_cases h4:index=4
            · rw [show decide (memOk ⟨kind,rg,base,index,scale,disp⟩)=false from decide_eq_false (by unfold memOk;dsimp only;omega)]
              have e4:(index == 4)=true:=by simpa using h4
              clear hi h4 hk hr hb hm
              go_enter Tryz.func83,Tryz.ntmps83
              go_wp2
              go_ret
              exact ⟨rfl,hB.out⟩
            · have e4:(index == 4)=false:=by simpa using h4
              by_cases h7:0 ≤ index∧index ≤ 7
              · have HI:=Lib.hid (mnumbered_yes index h7.1 h7.2)
                by_cases hs1:scale=1
                · rw [show decide (memOk ⟨kind,rg,base,index,scale,disp⟩)=true from decide_eq_true (by unfold memOk;dsimp only;omega)]
                  have es1:(scale == 1)=true:=by simpa using hs1
                  clear hi h4 hk hr hb h7 hm hs1
                  go_enter Tryz.func83,Tryz.ntmps83
                  go_wp2_with (go_at_call 80;first | ((with_reducible refine (HI.out _).mono ?_);rintro e w' ⟨rfl,rfl⟩))
                  go_ret
                  exact ⟨rfl,hB.out⟩
                have es1:(scale == 1)=false:=by simpa using hs1
                by_cases hs2:scale=2
                · rw [show decide (memOk ⟨kind,rg,base,index,scale,disp⟩)=true from decide_eq_true (by unfold memOk;dsimp only;omega)]
                  have es2:(scale == 2)=true:=by simpa using hs2
                  clear hi h4 hk hr hb h7 hm hs1 hs2
                  go_enter Tryz.func83,Tryz.ntmps83
                  go_wp2_with (go_at_call 80;first | ((with_reducible refine (HI.out _).mono ?_);rintro e w' ⟨rfl,rfl⟩))
                  go_ret
                  exact ⟨rfl,hB.out⟩
                have es2:(scale == 2)=false:=by simpa using hs2
                by_cases hs4:scale=4
                · rw [show decide (memOk ⟨kind,rg,base,index,scale,disp⟩)=true from decide_eq_true (by unfold memOk;dsimp only;omega)]
                  have es4:(scale == 4)=true:=by simpa using hs4
                  clear hi h4 hk hr hb h7 hm hs1 hs2 hs4
                  go_enter Tryz.func83,Tryz.ntmps83
                  go_wp2_with (go_at_call 80;first | ((with_reducible refine (HI.out _).mono ?_);rintro e w' ⟨rfl,rfl⟩))
                  go_ret
                  exact ⟨rfl,hB.out⟩
                have es4:(scale == 4)=false:=by simpa using hs4
                by_cases hs8:scale=8
                · rw [show decide (memOk ⟨kind,rg,base,index,scale,disp⟩)=true from decide_eq_true (by unfold memOk;dsimp only;omega)]
                  have es8:(scale == 8)=true:=by simpa using hs8
                  clear hi h4 hk hr hb h7 hm hs1 hs2 hs4 hs8
                  go_enter Tryz.func83,Tryz.ntmps83
                  go_wp2_with (go_at_call 80;first | ((with_reducible refine (HI.out _).mono ?_);rintro e w' ⟨rfl,rfl⟩))
                  go_ret
                  exact ⟨rfl,hB.out⟩
                have es8:(scale == 8)=false:=by simpa using hs8
                rw [show decide (memOk ⟨kind,rg,base,index,scale,disp⟩)=false from decide_eq_false (by unfold memOk;dsimp only;omega)]
                clear hi h4 hk hr hb h7 hm hs1 hs2 hs4 hs8
                go_enter Tryz.func83,Tryz.ntmps83
                go_wp2_with (go_at_call 80;first | ((with_reducible refine (HI.out _).mono ?_);rintro e w' ⟨rfl,rfl⟩))
                go_ret
                exact ⟨rfl,hB.out⟩
              · have HI:=Lib.hid (mnumbered_no index (by omega))
                rw [show decide (memOk ⟨kind,rg,base,index,scale,disp⟩)=false from decide_eq_false (by unfold memOk;dsimp only;omega)]
                clear hi h4 hk hr hb h7 hm
                go_enter Tryz.func83,Tryz.ntmps83
                go_wp2_with (go_at_call 80;first | ((with_reducible refine (HI.out _).mono ?_);rintro e w' ⟨rfl,rfl⟩))
                go_ret
                exact ⟨rfl,hB.out⟩
        · have em:(base != -1)=true:=by simpa using hm
          have HY:=Lib.hid (mnumbered_yes base (by omega) hb.2)
          by_cases hi:index=-1
          · rw [show decide (memOk ⟨kind,rg,base,index,scale,disp⟩)=(scale == 1) by rw [Bool.eq_iff_iff,decide_eq_true_iff,beq_iff_eq];unfold memOk;dsimp only;omega]
            have ei:(index == -1)=true:=by simpa using hi
            clear hi hk hr hb hm
            go_enter Tryz.func83,Tryz.ntmps83
            go_wp2_with (go_at_call 80;first | ((with_reducible refine (HY.out _).mono ?_);rintro e w' ⟨rfl,rfl⟩))
            go_ret
            exact ⟨rfl,hB.out⟩
          · have ei:(index == -1)=false:=by simpa using hi
            by_cases h4:index=4
            · rw [show decide (memOk ⟨kind,rg,base,index,scale,disp⟩)=false from decide_eq_false (by unfold memOk;dsimp only;omega)]
              have e4:(index == 4)=true:=by simpa using h4
              clear hi h4 hk hr hb hm
              go_enter Tryz.func83,Tryz.ntmps83
              go_wp2_with (go_at_call 80;first | ((with_reducible refine (HY.out _).mono ?_);rintro e w' ⟨rfl,rfl⟩))
              go_ret
              exact ⟨rfl,hB.out⟩
            · have e4:(index == 4)=false:=by simpa using h4
              by_cases h7:0 ≤ index∧index ≤ 7
              · have HI:=Lib.hid (mnumbered_yes index h7.1 h7.2)
                by_cases hs1:scale=1
                · rw [show decide (memOk ⟨kind,rg,base,index,scale,disp⟩)=true from decide_eq_true (by unfold memOk;dsimp only;omega)]
                  have es1:(scale == 1)=true:=by simpa using hs1
                  clear hi h4 hk hr hb h7 hm hs1
                  go_enter Tryz.func83,Tryz.ntmps83
                  go_wp2_with (go_at_call 80;first | ((with_reducible refine (HY.out _).mono ?_);rintro e w' ⟨rfl,rfl⟩) | ((with_reducible refine (HI.out _).mono ?_);rintro e w' ⟨rfl,rfl⟩))
                  go_ret
                  exact ⟨rfl,hB.out⟩
                have es1:(scale == 1)=false:=by simpa using hs1
                by_cases hs2:scale=2
                · rw [show decide (memOk ⟨kind,rg,base,index,scale,disp⟩)=true from decide_eq_true (by unfold memOk;dsimp only;omega)]
                  have es2:(scale == 2)=true:=by simpa using hs2
                  clear hi h4 hk hr hb h7 hm hs1 hs2
                  go_enter Tryz.func83,Tryz.ntmps83
                  go_wp2_with (go_at_call 80;first | ((with_reducible refine (HY.out _).mono ?_);rintro e w' ⟨rfl,rfl⟩) | ((with_reducible refine (HI.out _).mono ?_);rintro e w' ⟨rfl,rfl⟩))
                  go_ret
                  exact ⟨rfl,hB.out⟩
                have es2:(scale == 2)=false:=by simpa using hs2
                by_cases hs4:scale=4
                · rw [show decide (memOk ⟨kind,rg,base,index,scale,disp⟩)=true from decide_eq_true (by unfold memOk;dsimp only;omega)]
                  have es4:(scale == 4)=true:=by simpa using hs4
                  clear hi h4 hk hr hb h7 hm hs1 hs2 hs4
                  go_enter Tryz.func83,Tryz.ntmps83
                  go_wp2_with (go_at_call 80;first | ((with_reducible refine (HY.out _).mono ?_);rintro e w' ⟨rfl,rfl⟩) | ((with_reducible refine (HI.out _).mono ?_);rintro e w' ⟨rfl,rfl⟩))
                  go_ret
                  exact ⟨rfl,hB.out⟩
                have es4:(scale == 4)=false:=by simpa using hs4
                by_cases hs8:scale=8
                · rw [show decide (memOk ⟨kind,rg,base,index,scale,disp⟩)=true from decide_eq_true (by unfold memOk;dsimp only;omega)]
                  have es8:(scale == 8)=true:=by simpa using hs8
                  clear hi h4 hk hr hb h7 hm hs1 hs2 hs4 hs8
                  go_enter Tryz.func83,Tryz.ntmps83
                  go_wp2_with (go_at_call 80;first | ((with_reducible refine (HY.out _).mono ?_);rintro e w' ⟨rfl,rfl⟩) | ((with_reducible refine (HI.out _).mono ?_);rintro e w' ⟨rfl,rfl⟩))
                  go_ret
                  exact ⟨rfl,hB.out⟩
                have es8:(scale == 8)=false:=by simpa using hs8
                rw [show decide (memOk ⟨kind,rg,base,index,scale,disp⟩)=false from decide_eq_false (by unfold memOk;dsimp only;omega)]
                clear hi h4 hk hr hb h7 hm hs1 hs2 hs4 hs8
                go_enter Tryz.func83,Tryz.ntmps83
                go_wp2_with (go_at_call 80;first | ((with_reducible refine (HY.out _).mono ?_);rintro e w' ⟨rfl,rfl⟩) | ((with_reducible refine (HI.out _).mono ?_);rintro e w' ⟨rfl,rfl⟩))
                go_ret
                exact ⟨rfl,hB.out⟩
              · have HI:=Lib.hid (mnumbered_no index (by omega))
                rw [show decide (memOk ⟨kind,rg,base,index,scale,disp⟩)=false from decide_eq_false (by unfold memOk;dsimp only;omega)]
                clear hi h4 hk hr hb h7 hm
                go_enter Tryz.func83,Tryz.ntmps83
                go_wp2_with (go_at_call 80;first | ((with_reducible refine (HY.out _).mono ?_);rintro e w' ⟨rfl,rfl⟩) | ((with_reducible refine (HI.out _).mono ?_);rintro e w' ⟨rfl,rfl⟩))
                go_ret
                exact ⟨rfl,hB.out⟩
      · have em:(base != -1)=true:=by simp;omega
        have HY:=Lib.hid (mnumbered_no base (by omega))
        rw [show decide (memOk ⟨kind,rg,base,index,scale,disp⟩)=false from decide_eq_false (by unfold memOk;dsimp only;omega)]
        clear hk hr hb
        go_enter Tryz.func83,Tryz.ntmps83
        go_wp2_with (go_at_call 80;first | ((with_reducible refine (HY.out _).mono ?_);rintro e w' ⟨rfl,rfl⟩))
        go_ret
        exact ⟨rfl,hB.out⟩
    · have er:(rg != 0)=true:=by simpa using hr
      rw [show decide (memOk ⟨kind,rg,base,index,scale,disp⟩)=false from decide_eq_false (by unfold memOk;dsimp only;omega)]
      clear hk hr
      go_enter Tryz.func83,Tryz.ntmps83
      go_wp2
      go_ret
      exact ⟨rfl,hB.out⟩
  · have ek:(kind != 3)=true:=by simpa using hk
    rw [show decide (memOk ⟨kind,rg,base,index,scale,disp⟩)=false from decide_eq_false (by unfold memOk;dsimp only;omega)]
    clear hk
    go_enter Tryz.func83,Tryz.ntmps83
    go_wp2
    go_ret
    exact ⟨rfl,hB.out⟩
end Go.Proofs.YtlnahkkemjgjbaaGreat
