/- The word of any flags, and the flags of any word. -/
import Derived.Test.YtplghmkicdpbfaaRef13f
import Derived.Test.YtplghmkicdpbfaaEqSta
import Derived.Test.YtplghmkicdpbfaaQuietC
namespace Go.Proofs.Ytplghmkicdpbfaa
open Go.ChangeShapes Go.WideShapes Go.ChangeAt Go.RowKit

def flV (c p z s o d : Bool) : Value := .agg #[.bool c, .bool p, .bool z, .bool s, .bool o, .bool d]
theorem fl_key : Try.prog.keyTypeAt 4 25 = true := by kernel_rfl
theorem fl_form (c p z s o d : Bool) : (flV c p z s o d).formed Try.prog 25 = true := by kernel_rfl
theorem fl_lits (c p z s o d : Bool) : Try.prog.keyLits 4 25 (flV c p z s o d).cells.toList = some [.bool c, .bool p, .bool z, .bool s, .bool o, .bool d] := by kernel_rfl
theorem fl_same (w : World) (c p z s o d : Bool) : (binOp .eql 25 (flV c p z s o d) (flV c p z s o d)).run Try.prog w = .ok (.bool true) w := by
  obtain ⟨r, hr, hi⟩ := eq_deep fl_key (fl_form c p z s o d) (fl_form c p z s o d) (fl_lits c p z s o d) (fl_lits c p z s o d) w
  have : r = true := hi.2 rfl
  subst this
  unfold flV at hr ⊢
  rw [run_eql_struct, hr]
  rfl
theorem fl_guard1 : Try.prog.eqGuardType Try.prog.depth 25 = false := by kernel_rfl
theorem quietC_eq_fl {C : World → Prop} {K : Act → Prop} {a : Act} {D : Option Tmp} {ty : TypeId} {pos : String} {af : Array Edge} {g : Option (Nat × Bool)} (x y : Operand) (c p z s o d : Bool) (hx : a.eval x = flV c p z s o d) (hy : a.eval y = flV c p z s o d) (hK : (Oper.mk D (.move (.const (.bool true))) ty pos af g).quiet Try.prog a C K) : (Oper.mk D (.binOp .eql 25 x y 25) ty pos af g).quiet Try.prog a C K :=
  quietC_val _ (.bool true) (fun u _ => by
    have hg : (eqGuard .eql 25 x y (flV c p z s o d) (flV c p z s o d)).run Try.prog u = .ok () u := run_eqGuard_agg u .eql 25 x y _ _ fl_guard1
    have he := fl_same u c p z s o d
    unfold execOp
    simp only [Sem.run_bind, hx, hy, hg, he, Result.andThen_ok, Sem.run_pure]) hK
theorem word_back : ∀ c p z s o d : Bool, bitB (wordK c p z s o d 6) 0 = c ∧ bitB (wordK c p z s o d 6) 1 = p ∧ bitB (wordK c p z s o d 6) 2 = z ∧ bitB (wordK c p z s o d 6) 3 = s ∧ bitB (wordK c p z s o d 6) 5 = o ∧ bitB (wordK c p z s o d 6) 4 = d := by decide +kernel
theorem word_two : ∀ c p z s o d : Bool, bits .and .u32 (wordK c p z s o d 6) 2 = 2 ∧ bits .andNot .u32 (wordK c p z s o d 6) 3271 = 0 := by decide +kernel
set_option maxRecDepth 100000 in
set_option maxHeartbeats 8000000 in
theorem flagsback_walk (LW : ∀ (c p z s o d : Bool) (w : World), Calls Try.prog 9 #[flV c p z s o d] w fun e w' => e = .returned (.int .u32 (wordK c p z s o d 6)) ∧ Below w.heap.size w w')
    (LF : ∀ (v : Int), 0 ≤ v → v < 4294967296 → ∀ w : World, Calls Try.prog 11 #[.int .u32 v] w fun e w' => e = .returned (flV (bitB v 0) (bitB v 1) (bitB v 2) (bitB v 3) (bitB v 5) (bitB v 4)) ∧ Below w.heap.size w w')
    (HK : ∀ w : World, Calls Try.prog 6 #[] w fun e w' => e = .returned (.bool true) ∧ Below w.heap.size w w')
    (c p z s o d : Bool) (v : Int) (v0 : 0 ≤ v) (v1 : v < 4294967296) (w : World) :
    Calls Try.prog 4 #[flV c p z s o d, .int .u32 v] w fun e w' => e = .returned (.bool true) ∧ Below w.heap.size w w' := by
  have HK := Lib.hid HK
  obtain ⟨W, hW⟩ : ∃ W, wordK c p z s o d 6 = W := ⟨_, rfl⟩
  have wl := word_lt c p z s o d 6 (by decide)
  have wt := word_two c p z s o d
  have wb := word_back c p z s o d
  have H1 := fun u => LW c p z s o d u
  rw [show flV c p z s o d = (Value.agg #[.bool c, .bool p, .bool z, .bool s, .bool o, .bool d]) from rfl] at H1
  have H2 := fun u => (rword_any c p z s o d u)
  rw [hW] at wl wt wb H1 H2
  have H3 := fun u => LF W wl.1 wl.2 u
  rw [wb.1, wb.2.1, wb.2.2.1, wb.2.2.2.1, wb.2.2.2.2.1, wb.2.2.2.2.2] at H3
  have H4 := fun u => LF v v0 v1 u
  have H5 := fun u => rfrom13_any v v0 v1 u
  rw [show (Value.agg #[.bool (bitB v 0), .bool (bitB v 1), .bool (bitB v 2), .bool (bitB v 3), .bool (bitB v 5), .bool (bitB v 4)]) = flV (bitB v 0) (bitB v 1) (bitB v 2) (bitB v 3) (bitB v 5) (bitB v 4) from rfl] at H5
  obtain ⟨t1, t2⟩ := wt
  have H1 := Lib.hid H1
  have H2 := Lib.hid H2
  have H3 := Lib.hid H3
  have H4 := Lib.hid H4
  have H5 := Lib.hid H5
  clear wl wb hW
  unfold flV
  go_enter Try.func4, Try.ntmps4
  go_wp2_with fail
  refine (HK.out _).mono ?_
  rintro e w1 ⟨rfl, b1⟩
  have g1 : w1.heap[w.heap.size]? = some (.cells #[.bool c, .bool p, .bool z, .bool s, .bool o, .bool d] 25 (0, 0)) := (b1.block _ (by simp)).trans (heap_0f w _)
  have HR := Lib.hid (show w1.rangeAt w.heap.size 0 [.bool c, .bool p, .bool z, .bool s, .bool o, .bool d] from fun j y hj => by
    rw [Nat.zero_add, (cell_block g1 j).1]
    simpa using hj)
  have HZ := Lib.hid (Array.getElem?_eq_some_iff.1 g1).1
  have HB1 := Lib.hid ((below_last (Below.refl w.heap.size w) (.cells #[.bool c, .bool p, .bool z, .bool s, .bool o, .bool d] 25)).trans (b1.mono (by simp)))
  clear g1 b1
  go_wp2_with (refine wpList_load_mid rfl 25 (.tmp 2) rfl w.heap.size 0 rfl [.bool c, .bool p, .bool z, .bool s, .bool o, .bool d] _ HR.out Try.underlying25 rfl info_fl ?_)
  ((with_reducible refine (H1.out _).mono ?_); rintro e w2 ⟨rfl, b2⟩)
  have HB2 := Lib.hid b2
  clear b2
  have HRB := Lib.hid (show ∀ u, Below w1.heap.size w1 u → u.rangeAt w.heap.size 0 [.bool c, .bool p, .bool z, .bool s, .bool o, .bool d] from fun u hu j y hj => (hu.cell (p := ⟨w.heap.size, 0 + j, none⟩) HZ.out).trans (HR.out j y hj))
  have hne := class_const (C := fun u => Below w1.heap.size w1 u) (Below.refl w1.heap.size w1)
  go_wp2_with fail
  refine wp_region_quietC (fun u => Below w1.heap.size w1 u) (by kernel_rfl) (by kernel_rfl) (HB2.out.drew) ?_
  go_big_quiet_want; go_big_quiet_op; go_big_quiet_on
  go_big_quiet_want; refine quietC_load 25 (.tmp 2) w.heap.size 0 rfl [.bool c, .bool p, .bool z, .bool s, .bool o, .bool d] _ HRB.out Try.underlying25 rfl info_fl ?_; go_big_quiet_op; go_big_quiet_on
  go_big_quiet_want; refine quietC_call 10 #[.tmp 11] _ #[.agg #[.bool c, .bool p, .bool z, .bool s, .bool o, .bool d]] (.int .u32 W) (fun u _ => by simp [Act.eval, go_sem]) (fun u hu => (H2.out u).mono fun _ _ ⟨h1, h2⟩ => ⟨h1, hu.trans (h2.mono hu.size)⟩) ?_; go_big_quiet_op; go_big_quiet_on
  go_big_quiet_want; go_big_quiet_op; go_big_quiet_on
  go_big_quiet_want; go_big_quiet_op; go_big_quiet_on
  go_big_quiet_want; go_big_quiet_op; go_big_quiet_on
  go_big_quiet_want; refine quietC_call 11 #[.tmp 15] _ #[.int .u32 W] (flV c p z s o d) (fun u _ => by simp [Act.eval, go_sem]) (fun u hu => (H3.out u).mono fun _ _ ⟨h1, h2⟩ => ⟨h1, hu.trans (h2.mono hu.size)⟩) ?_; go_big_quiet_op; go_big_quiet_on
  go_big_quiet_want; refine quietC_load 25 (.tmp 2) w.heap.size 0 rfl [.bool c, .bool p, .bool z, .bool s, .bool o, .bool d] _ HRB.out Try.underlying25 rfl info_fl ?_; go_big_quiet_op; go_big_quiet_on
  go_big_quiet_want; refine quietC_eq_fl (.tmp 16) (.tmp 17) c p z s o d rfl rfl ?_; go_big_quiet_op; go_big_quiet_on
  go_big_quiet_want; go_big_quiet_op; go_big_quiet_on
  go_big_quiet_want; go_big_quiet_op; go_big_quiet_on
  go_big_quiet_want; go_big_quiet_op; go_big_quiet_on
  go_big_quiet_want; refine quietC_call 11 #[.tmp 21] _ #[.int .u32 v] (flV (bitB v 0) (bitB v 1) (bitB v 2) (bitB v 3) (bitB v 5) (bitB v 4)) (fun u _ => by simp [Act.eval, go_sem]) (fun u hu => (H4.out u).mono fun _ _ ⟨h1, h2⟩ => ⟨h1, hu.trans (h2.mono hu.size)⟩) ?_; go_big_quiet_op; go_big_quiet_on
  go_big_quiet_want; go_big_quiet_op; go_big_quiet_on
  go_big_quiet_want; refine quietC_call 12 #[.tmp 23] _ #[.int .u32 v] (flV (bitB v 0) (bitB v 1) (bitB v 2) (bitB v 3) (bitB v 5) (bitB v 4)) (fun u _ => by simp [Act.eval, go_sem]) (fun u hu => (H5.out u).mono fun _ _ ⟨h1, h2⟩ => ⟨h1, hu.trans (h2.mono hu.size)⟩) ?_; go_big_quiet_op; go_big_quiet_on
  go_big_quiet_want; refine quietC_eq_fl (.tmp 22) (.tmp 24) (bitB v 0) (bitB v 1) (bitB v 2) (bitB v 3) (bitB v 5) (bitB v 4) rfl rfl ?_; go_big_quiet_op; go_big_quiet_on
  go_big_quiet_want; go_big_quiet_op; go_big_quiet_on
  go_big_quiet_want; go_big_quiet_op; go_big_quiet_on
  go_big_quiet_want; go_big_quiet_op; go_big_quiet_on
  go_big_quiet_want; go_big_quiet_op; go_big_quiet_on
  go_big_quiet_want; go_big_quiet_op; go_big_quiet_on
  go_big_quiet_want; go_big_quiet_op; go_big_quiet_on
  go_big_quiet_want; go_big_quiet_op; go_big_quiet_on
  go_big_quiet_want; go_big_quiet_op; go_big_quiet_on
  go_big_quiet_want; go_big_quiet_op; go_big_quiet_on
  go_big_quiet_want; go_big_quiet_op; go_big_quiet_on
  go_big_quiet_want; go_big_quiet_op; go_big_quiet_on
  go_big_quiet_want; go_big_quiet_op; go_big_quiet_on
  refine wpQuiet_nil ?_
  intro w5 hw5
  have HW5 := Lib.hid (HB1.out.trans (hw5.mono HB1.out.size))
  clear hw5
  go_wp2_with fail
  go_returns
  exact ⟨rfl, HW5.out⟩
end Go.Proofs.Ytplghmkicdpbfaa
