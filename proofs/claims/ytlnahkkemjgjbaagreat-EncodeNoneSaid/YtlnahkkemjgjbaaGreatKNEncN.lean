import Derived.Test.YtlnahkkemjgjbaaGreatKNEncH
import Derived.Test.YtlnahkkemjgjbaaGreatKNEncI
import Derived.Test.YtlnahkkemjgjbaaGreatKNEncJ
import Derived.Test.YtlnahkkemjgjbaaGreatKNEncM
namespace Go.Proofs.YtlnahkkemjgjbaaGreat
open Go.ChangeShapes Go.WideShapes Go.ChangeAt Go.RowKit
set_option maxRecDepth 100000
set_option maxHeartbeats 4000000
theorem led_any (x:Ins) (ha:0 ≤ x.a.disp∧x.a.disp < 4294967296) (hb:0 ≤ x.b.disp∧x.b.disp < 4294967296) (w:World):Calls Tryz.prog 60 #[insV x] w (RowsR w ((ledC x.op x.cond x.size x.rep).map (fillF x))):=by
  by_cases h31:x.op=31
  · rw [h31]
    exact led_31 x ha hb h31 w
  by_cases h32:x.op=32
  · rw [h32]
    exact led_32 x ha hb h32 w
  by_cases h33:x.op=33
  · rw [h33]
    exact led_33 x ha hb h33 w
  by_cases h34:x.op=34
  · rw [h34]
    exact led_34 x ha hb h34 w
  by_cases h35:x.op=35
  · rw [h35]
    exact led_35 x ha hb h35 w
  have e:ledC x.op x.cond x.size x.rep=singleC x.op x.cond x.size x.rep:=by
    unfold ledC
    rw [if_neg h31,if_neg h32,if_neg h33,if_neg h34,if_neg h35]
  rw [e]
  clear e
  have HS:=single_any x ha hb
  have n31:(x.op == 31)=false:=by simpa using h31
  have n32:(x.op == 32)=false:=by simpa using h32
  have n33:(x.op == 33)=false:=by simpa using h33
  have n34:(x.op == 34)=false:=by simpa using h34
  have n35:(x.op == 35)=false:=by simpa using h35
  clear ha hb h31 h32 h33 h34 h35
  rw [show insV x=.agg (insL x).toArray from rfl] at HS
  unfold insV
  have hc0:(insC x)[0]?=some (.int .i64 x.op):=rfl
  have HS:=Lib.hid HS
  go_enter Tryz.func60,Tryz.ntmps60
  go_wp2_with (refine wpList_load_mid rfl 26 (.tmp 1) rfl w.heap.size 0 rfl (insL x) _ (boxed x (Below.refl _ _)) Tryz.underlying26 rfl info_ins ?_)
  refine (HS.out _).mono ?_
  rintro e w1 ⟨v,rfl,hs,b1⟩
  obtain ⟨a,m,c,rfl⟩:=hs.is
  have R:=Lib.hid hs
  have B:=Lib.hid (below_first b1)
  clear hs b1
  go_wp2_with fail
  go_returns
  exact ⟨_,rfl,R.out,B.out⟩
theorem moved_any (x:Ins) (ha:0 ≤ x.a.disp∧x.a.disp < 4294967296) (hb:0 ≤ x.b.disp∧x.b.disp < 4294967296) (w:World):Calls Tryz.prog 42 #[insV x] w (RowsR w ((movedC x.op x.cond x.size x.rep).map (fillF x))):=by
  by_cases h18:x.op=18
  · rw [h18]
    exact moved_18 x ha hb h18 w
  by_cases h22:x.op=22
  · rw [h22]
    exact moved_22 x ha hb h22 w
  by_cases h23:x.op=23
  · rw [h23]
    exact moved_23 x ha hb h23 w
  by_cases h24:x.op=24
  · rw [h24]
    exact moved_24 x ha hb h24 w
  by_cases h25:x.op=25
  · rw [h25]
    exact moved_25 x ha hb h25 w
  by_cases h51:x.op=51
  · rw [h51]
    exact moved_51 x ha hb h51 w
  have e:movedC x.op x.cond x.size x.rep=ledC x.op x.cond x.size x.rep:=by
    unfold movedC
    rw [if_neg h18,if_neg h22,if_neg h23,if_neg h24,if_neg h25,if_neg h51]
  rw [e]
  clear e
  have HS:=led_any x ha hb
  have n18:(x.op == 18)=false:=by simpa using h18
  have n22:(x.op == 22)=false:=by simpa using h22
  have n23:(x.op == 23)=false:=by simpa using h23
  have n24:(x.op == 24)=false:=by simpa using h24
  have n25:(x.op == 25)=false:=by simpa using h25
  have n51:(x.op == 51)=false:=by simpa using h51
  clear ha hb h18 h22 h23 h24 h25 h51
  rw [show insV x=.agg (insL x).toArray from rfl] at HS
  unfold insV
  have hc0:(insC x)[0]?=some (.int .i64 x.op):=rfl
  have HS:=Lib.hid HS
  have HW:=Lib.hid (wide_any x.size)
  have hc2:(insC x)[2]?=some (.int .i64 x.size):=rfl
  go_enter Tryz.func42,Tryz.ntmps42
  go_wp2_with (first | (go_at_call 35;(with_reducible refine (HW.out _).mono ?_);rintro e w' ⟨rfl,rfl⟩) | (refine wpList_load_mid rfl 26 (.tmp 1) rfl w.heap.size 0 rfl (insL x) _ (boxed x (Below.refl _ _)) Tryz.underlying26 rfl info_ins ?_))
  refine (HS.out _).mono ?_
  rintro e w1 ⟨v,rfl,hs,b1⟩
  obtain ⟨a,m,c,rfl⟩:=hs.is
  have R:=Lib.hid hs
  have B:=Lib.hid (below_first b1)
  clear hs b1
  go_wp2_with fail
  go_returns
  exact ⟨_,rfl,R.out,B.out⟩
theorem spellings_reck (x:Ins) (ha:0 ≤ x.a.disp∧x.a.disp < 4294967296) (hb:0 ≤ x.b.disp∧x.b.disp < 4294967296) (w:World) (h:x.op=1 ∨ x.op=2 ∨ x.op=3 ∨ x.op=4 ∨ x.op=5 ∨ x.op=6 ∨ x.op=7 ∨ x.op=8):Calls Tryz.prog 20 #[insV x] w (RowsR w (spellF x)):=by
  have HS:=reckoned_any x ha hb (x.op - 1) (by omega) (by omega)
  have HW:=Lib.hid (wide_any x.size)
  have e:spellF x=(reckC x.size (x.op - 1)).map (fillF x):=by
    unfold spellF candF
    rw [if_pos (by omega)]
  rw [e]
  clear e ha hb
  generalize (reckC x.size (x.op - 1)).map (fillF x)=LL at *
  rw [show insV x=.agg (insL x).toArray from rfl] at HS
  unfold insV
  have hc2:(insC x)[2]?=some (.int .i64 x.size):=rfl
  rcases h with h | h | h | h | h | h | h | h
  all_goals
    have hc0:(insC x)[0]?=some (.int .i64 x.op):=rfl
    rw [h] at HS hc0
    clear h
    have HS:=Lib.hid HS
    go_enter Tryz.func20,Tryz.ntmps20
    go_wp2_with (first | (go_at_call 35;(with_reducible refine (HW.out _).mono ?_);rintro e w' ⟨rfl,rfl⟩) | (refine wpList_load_mid rfl 26 (.tmp 1) rfl w.heap.size 0 rfl (insL x) _ (boxed x (Below.refl _ _)) Tryz.underlying26 rfl info_ins ?_))
    refine (HS.out _).mono ?_
    rintro e w1 ⟨v,rfl,hs,b1⟩
    obtain ⟨a,m,c,rfl⟩:=hs.is
    have R:=Lib.hid hs
    have B:=Lib.hid (below_first b1)
    clear hs b1
    go_wp2_with fail
    go_returns
    exact ⟨_,rfl,R.out,B.out⟩
theorem spellings_shift (x:Ins) (ha:0 ≤ x.a.disp∧x.a.disp < 4294967296) (hb:0 ≤ x.b.disp∧x.b.disp < 4294967296) (w:World) (r:Int) (h:(x.op=26∧r=0) ∨ (x.op=27∧r=1) ∨ (x.op=28∧r=4) ∨ (x.op=29∧r=5) ∨ (x.op=30∧r=7)):Calls Tryz.prog 20 #[insV x] w (RowsR w (spellF x)):=by
  have HS:=shifted_any x ha hb r
  have HW:=Lib.hid (wide_any x.size)
  have e:spellF x=(shiftC r).map (fillF x):=by
    unfold spellF
    rcases h with ⟨h,rfl⟩ | ⟨h,rfl⟩ | ⟨h,rfl⟩ | ⟨h,rfl⟩ | ⟨h,rfl⟩ <;> (rw [h];rfl)
  rw [e]
  clear e ha hb
  generalize (shiftC r).map (fillF x)=LL at *
  rw [show insV x=.agg (insL x).toArray from rfl] at HS
  unfold insV
  have hc2:(insC x)[2]?=some (.int .i64 x.size):=rfl
  rcases h with ⟨h,rfl⟩ | ⟨h,rfl⟩ | ⟨h,rfl⟩ | ⟨h,rfl⟩ | ⟨h,rfl⟩
  all_goals
    have hc0:(insC x)[0]?=some (.int .i64 x.op):=rfl
    rw [h] at hc0
    clear h
    have HS:=Lib.hid HS
    go_enter Tryz.func20,Tryz.ntmps20
    go_wp2_with (first | (go_at_call 35;(with_reducible refine (HW.out _).mono ?_);rintro e w' ⟨rfl,rfl⟩) | (refine wpList_load_mid rfl 26 (.tmp 1) rfl w.heap.size 0 rfl (insL x) _ (boxed x (Below.refl _ _)) Tryz.underlying26 rfl info_ins ?_))
    refine (HS.out _).mono ?_
    rintro e w1 ⟨v,rfl,hs,b1⟩
    obtain ⟨a,m,c,rfl⟩:=hs.is
    have R:=Lib.hid hs
    have B:=Lib.hid (below_first b1)
    clear hs b1
    go_wp2_with fail
    go_returns
    exact ⟨_,rfl,R.out,B.out⟩
theorem spellings_one (x:Ins) (ha:0 ≤ x.a.disp∧x.a.disp < 4294967296) (hb:0 ≤ x.b.disp∧x.b.disp < 4294967296) (w:World) (h:x.op=10 ∨ x.op=11 ∨ x.op=12 ∨ x.op=13 ∨ x.op=14 ∨ x.op=15):Calls Tryz.prog 20 #[insV x] w (RowsR w (spellF x)):=by
  have _:=hb
  have HP:=fun w=>placed_any (246+wF x.size) (2+x.op - 10) x.a ha.1 ha.2 [] (by decide) (.slice none 0 0) w (.inl ⟨rfl,rfl⟩)
  have HW:=Lib.hid (wide_any x.size)
  have ho:=or_w 246 x.size (by decide) (by decide) (by decide)
  have e:spellF x=[placedF (246+wF x.size) (2+x.op - 10) x.a []]:=by
    unfold spellF candF
    rw [if_neg (by omega),if_neg (by omega),if_pos (by omega)]
    rfl
  rw [e]
  clear e ha hb
  generalize placedF (246+wF x.size) (2+x.op - 10) x.a []=l at *
  rw [show opV x.a=.agg (opL' x.a).toArray from rfl] at HP
  unfold insV
  have hc2:(insC x)[2]?=some (.int .i64 x.size):=rfl
  rcases h with h | h | h | h | h | h
  all_goals
    have hc0:(insC x)[0]?=some (.int .i64 x.op):=rfl
    rw [h] at HP hc0
    clear h
    have HP:=Lib.hid HP
    go_enter Tryz.func20,Tryz.ntmps20
    go_wp2_with (first | (go_at_call 35;(with_reducible refine (HW.out _).mono ?_);rintro e w' ⟨rfl,rfl⟩) | (refine wpList_load_mid rfl 24 (.tmp 60) rfl w.heap.size 3 rfl (opL' x.a) _ (insL_a (boxed x (Below.refl _ _))) Tryz.underlying24 rfl info_opd1 ?_))
    refine (HP.out _).mono ?_
    rintro e w3 ⟨v,rfl,hs,b3⟩
    obtain ⟨a,c,rfl⟩:=hs.len
    have R:=Lib.hid (brows_1 w3 30 _ _ hs)
    have B4:=Lib.hid (below_first b3)
    clear hs b3
    go_wp2_with fail
    go_returns
    exact ⟨_,rfl,R.out,below_last B4.out _⟩
theorem spellings_any (x:Ins) (ha:0 ≤ x.a.disp∧x.a.disp < 4294967296) (hb:0 ≤ x.b.disp∧x.b.disp < 4294967296) (w:World):Calls Tryz.prog 20 #[insV x] w (RowsR w (spellF x)):=by
  by_cases h1:1 ≤ x.op∧x.op ≤ 8
  · exact spellings_reck x ha hb w (by omega)
  by_cases h9:x.op=9
  · have:=spellings_9 x ha hb h9 w
    unfold spellF
    rw [h9]
    exact this
  by_cases h10:10 ≤ x.op∧x.op ≤ 15
  · exact spellings_one x ha hb w (by omega)
  by_cases h16:x.op=16
  · have:=spellings_16 x ha hb h16 w
    unfold spellF
    rw [h16]
    exact this
  by_cases h17:x.op=17
  · have:=spellings_17 x ha hb h17 w
    unfold spellF
    rw [h17]
    exact this
  by_cases h26:x.op=26
  · exact spellings_shift x ha hb w 0 (.inl ⟨h26,rfl⟩)
  by_cases h27:x.op=27
  · exact spellings_shift x ha hb w 1 (.inr (.inl ⟨h27,rfl⟩))
  by_cases h28:x.op=28
  · exact spellings_shift x ha hb w 4 (.inr (.inr (.inl ⟨h28,rfl⟩)))
  by_cases h29:x.op=29
  · exact spellings_shift x ha hb w 5 (.inr (.inr (.inr (.inl ⟨h29,rfl⟩))))
  by_cases h30:x.op=30
  · exact spellings_shift x ha hb w 7 (.inr (.inr (.inr (.inr ⟨h30,rfl⟩))))
  have e:spellF x=(movedC x.op x.cond x.size x.rep).map (fillF x):=by
    unfold spellF candF
    rw [if_neg h1,if_neg h9,if_neg h10,if_neg (fun h=>h.elim h16 h17),if_neg h26,if_neg h27,if_neg h28,if_neg h29,if_neg h30]
  rw [e]
  clear e
  have HS:=moved_any x ha hb
  have HW:=Lib.hid (wide_any x.size)
  have n1:(x.op == 1)=false:=by simp;omega
  have n2:(x.op == 2)=false:=by simp;omega
  have n3:(x.op == 3)=false:=by simp;omega
  have n4:(x.op == 4)=false:=by simp;omega
  have n5:(x.op == 5)=false:=by simp;omega
  have n6:(x.op == 6)=false:=by simp;omega
  have n7:(x.op == 7)=false:=by simp;omega
  have n8:(x.op == 8)=false:=by simp;omega
  have n9:(x.op == 9)=false:=by simp;omega
  have n10:(x.op == 10)=false:=by simp;omega
  have n11:(x.op == 11)=false:=by simp;omega
  have n12:(x.op == 12)=false:=by simp;omega
  have n13:(x.op == 13)=false:=by simp;omega
  have n14:(x.op == 14)=false:=by simp;omega
  have n15:(x.op == 15)=false:=by simp;omega
  have n16:(x.op == 16)=false:=by simp;omega
  have n17:(x.op == 17)=false:=by simp;omega
  have n26:(x.op == 26)=false:=by simp;omega
  have n27:(x.op == 27)=false:=by simp;omega
  have n28:(x.op == 28)=false:=by simp;omega
  have n29:(x.op == 29)=false:=by simp;omega
  have n30:(x.op == 30)=false:=by simp;omega
  clear ha hb h1 h9 h10 h16 h17 h26 h27 h28 h29 h30
  generalize (movedC x.op x.cond x.size x.rep).map (fillF x)=LL at *
  rw [show insV x=.agg (insL x).toArray from rfl] at HS
  unfold insV
  have hc0:(insC x)[0]?=some (.int .i64 x.op):=rfl
  have hc2:(insC x)[2]?=some (.int .i64 x.size):=rfl
  have HS:=Lib.hid HS
  go_enter Tryz.func20,Tryz.ntmps20
  go_wp2_with (first | (go_at_call 35;(with_reducible refine (HW.out _).mono ?_);rintro e w' ⟨rfl,rfl⟩) | (refine wpList_load_mid rfl 26 (.tmp 1) rfl w.heap.size 0 rfl (insL x) _ (boxed x (Below.refl _ _)) Tryz.underlying26 rfl info_ins ?_))
  refine (HS.out _).mono ?_
  rintro e w1 ⟨v,rfl,hs,b1⟩
  obtain ⟨a,m,c,rfl⟩:=hs.is
  have R:=Lib.hid hs
  have B:=Lib.hid (below_first b1)
  clear hs b1
  go_wp2_with fail
  go_returns
  exact ⟨_,rfl,R.out,B.out⟩
end Go.Proofs.YtlnahkkemjgjbaaGreat
