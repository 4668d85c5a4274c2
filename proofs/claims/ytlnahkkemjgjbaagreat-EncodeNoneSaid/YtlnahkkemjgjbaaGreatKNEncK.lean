import Derived.Test.YtlnahkkemjgjbaaGreatKNC11
namespace Go.Proofs.YtlnahkkemjgjbaaGreat
open Go.ChangeShapes Go.WideShapes Go.ChangeAt Go.RowKit
set_option maxRecDepth 100000
set_option maxHeartbeats 4000000
theorem into_any (x:Ins) (w:World):Calls Tryz.prog 98 #[insV x] w fun e w'=>e=.returned (.int .i64 (intoC x.op x.cond x.size))∧Below w.heap.size w w':=by
  have HC:=condition_any x
  have HW:=Lib.hid (wide_any x.size)
  have ho:=or_c 3904 x.cond (by decide) (by decide) (by decide)
  have hw1:=or_w 4022 x.size (by decide) (by decide) (by decide)
  have hw2:=or_w 4030 x.size (by decide) (by decide) (by decide)
  unfold insV insC at HC ⊢
  obtain ⟨op,cd,sz,oa,ob,oc,rp,ln⟩:=x
  dsimp only at HC HW ho hw1 hw2 ⊢
  have HC:=Lib.hid HC
  by_cases h:op=21 ∨ op=36 ∨ op=19 ∨ op=20 ∨ op=59 ∨ op=60 ∨ op=58 ∨ op=52 ∨ op=53 ∨ op=54 ∨ op=55 ∨ op=56 ∨ op=57 ∨ op=61
  · rcases h with rfl | rfl | rfl | rfl | rfl | rfl | rfl | rfl | rfl | rfl | rfl | rfl | rfl | rfl
    all_goals
      go_enter Tryz.func98,Tryz.ntmps98
      go_wp2_with (first | (go_at_call 86;(with_reducible refine (HC.out _).mono ?_);rintro e w' ⟨rfl,hb⟩;have HB:=Lib.hid (below_first hb);clear hb) | (go_at_call 35;(with_reducible refine (HW.out _).mono ?_);rintro e w' ⟨rfl,rfl⟩))
      go_returns
      first | exact ⟨rfl,HB.out⟩ | exact ⟨rfl,below_last (Below.refl _ _) _⟩
  · simp only [not_or] at h
    have n21:(op == 21)=false:=by simp at h ⊢;omega
    have n36:(op == 36)=false:=by simp at h ⊢;omega
    have n19:(op == 19)=false:=by simp at h ⊢;omega
    have n20:(op == 20)=false:=by simp at h ⊢;omega
    have n59:(op == 59)=false:=by simp at h ⊢;omega
    have n60:(op == 60)=false:=by simp at h ⊢;omega
    have n58:(op == 58)=false:=by simp at h ⊢;omega
    have n52:(op == 52)=false:=by simp at h ⊢;omega
    have n53:(op == 53)=false:=by simp at h ⊢;omega
    have n54:(op == 54)=false:=by simp at h ⊢;omega
    have n55:(op == 55)=false:=by simp at h ⊢;omega
    have n56:(op == 56)=false:=by simp at h ⊢;omega
    have n57:(op == 57)=false:=by simp at h ⊢;omega
    have n61:(op == 61)=false:=by simp at h ⊢;omega
    go_enter Tryz.func98,Tryz.ntmps98
    go_wp2_with fail
    go_returns
    refine ⟨?_,below_last (Below.refl _ _) _⟩
    unfold intoC
    rw [if_neg (by omega),if_neg (by omega),if_neg (by omega),if_neg (by omega),if_neg (by omega),if_neg (by omega),if_neg (by omega),if_neg (by omega),if_neg (by omega),if_neg (by omega),if_neg (by omega),if_neg (by omega),if_neg (by omega),if_neg (by omega)]
    rfl
end Go.Proofs.YtlnahkkemjgjbaaGreat
