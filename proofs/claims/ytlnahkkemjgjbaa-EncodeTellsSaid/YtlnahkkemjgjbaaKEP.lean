import Derived.KernelRfl
import Derived.Laws.StructEq
import Derived.Test.YtlnahkkemjgjbaaKEE
namespace Go.Proofs.Ytlnahkkemjgjbaa
section
def alike (n : Nat) (bs bs' : Nat → Int) : Prop := ∀ i, i < n → bs' i = bs i
theorem disp_alike {k : Nat} {bs bs' : Nat → Int} {m n : Nat} (ha : alike n bs bs') (h : m + k ≤ n) : disp9 k bs' m = disp9 k bs m := by
  unfold disp9
  by_cases h1 : k = 1
  · rw [if_pos h1, if_pos h1, ha m (by omega)]
  · rw [if_neg h1, if_neg h1]
    by_cases h4 : k = 4
    · rw [if_pos h4, if_pos h4, ha m (by omega), ha (m + 1) (by omega), ha (m + 2) (by omega), ha (m + 3) (by omega)]
    · rw [if_neg h4, if_neg h4]
theorem rm_more {L n : Nat} {bs : Nat → Int} {o : Opd} {r : Int} (h : rmF L bs = some (o, r, n)) : 1 ≤ n ∧ n ≤ L ∧ ∀ L' bs', alike n bs bs' → (n ≤ L' → rmF L' bs' = some (o, r, n)) ∧ (L' < n → rmF L' bs' = none) := by
  unfold rmF at h
  by_cases h0 : L = 0
  · rw [if_pos h0] at h; cases h
  rw [if_neg h0] at h
  by_cases h3 : bs 0 / 64 = 3
  · rw [if_pos h3] at h
    cases h
    refine ⟨by omega, by omega, fun L' bs' ha => ⟨fun hL => ?_, fun hL => ?_⟩⟩
    · unfold rmF; rw [if_neg (by omega), ha 0 (by omega), if_pos h3]
    · unfold rmF; rw [if_pos (by omega)]
  rw [if_neg h3] at h
  by_cases h4 : bs 0 % 8 = 4
  · rw [if_pos h4] at h
    by_cases h2 : L < 2
    · rw [if_pos h2] at h; cases h
    rw [if_neg h2] at h
    by_cases h5 : L < 2 + more9 (bs 0 / 64) (bs 1 % 8)
    · rw [if_pos h5] at h; cases h
    rw [if_neg h5] at h
    cases h
    refine ⟨by omega, by omega, fun L' bs' ha => ?_⟩
    have e0 := ha 0 (by omega)
    have e1 := ha 1 (by omega)
    refine ⟨fun hL => ?_, fun hL => ?_⟩
    · unfold rmF
      rw [if_neg (by omega), e0, e1, if_neg h3, if_pos h4, if_neg (by omega), if_neg (by omega), disp_alike ha (by omega)]
    · unfold rmF
      by_cases k0 : L' = 0
      · rw [if_pos k0]
      rw [if_neg k0, e0, if_neg h3, if_pos h4]
      by_cases k1 : L' < 2
      · rw [if_pos k1]
      rw [if_neg k1, e1, if_pos (by omega)]
  · rw [if_neg h4] at h
    by_cases h5 : L < 1 + more9 (bs 0 / 64) (bs 0 % 8)
    · rw [if_pos h5] at h; cases h
    rw [if_neg h5] at h
    cases h
    refine ⟨by omega, by omega, fun L' bs' ha => ?_⟩
    have e0 := ha 0 (by omega)
    refine ⟨fun hL => ?_, fun hL => ?_⟩
    · unfold rmF
      rw [if_neg (by omega), e0, if_neg h3, if_neg h4, if_neg (by omega), disp_alike ha (by omega)]
    · unfold rmF
      by_cases k0 : L' = 0
      · rw [if_pos k0]
      rw [if_neg k0, e0, if_neg h3, if_neg h4, if_pos (by omega)]
theorem behF_in (L : Nat) (bs : Nat → Int) (k : Nat) : -1 ≤ behF L bs k ∧ behF L bs k < 8 := by unfold behF; split <;> omega
end
section
open Go.ChangeShapes Go.WideShapes Go.ChangeAt Go.RowKit
theorem ins_guard1 : Try.prog.eqGuardType Try.prog.depth 27 = false := by kernel_rfl
theorem opd_self (w : World) (d : Nat) (a0 a1 a2 a3 a4 a5 : Int) :
    (Op.equalIn (d + 2) 25 (.agg #[.int .i64 a0, .int .i64 a1, .int .i64 a2, .int .i64 a3, .int .i64 a4, .int .u32 a5]) (.agg #[.int .i64 a0, .int .i64 a1, .int .i64 a2, .int .i64 a3, .int .i64 a4, .int .u32 a5])).run Try.prog w = .ok true w := by
  have u4 := Try.underlying3
  have z4 := Try.isAgg3
  have u5 := Try.underlying22
  have z5 := Try.isAgg22
  have hS : Try.prog.underlying 25 = some (.struct (Try.prog.fieldsOf 25)) := by kernel_rfl
  have hp : Try.prog.stoodInHeld 25 = false := by kernel_rfl
  rw [run_equalIn_agg w (d + 1) 25 _ _ hS hp]
  simp only [Program.fieldsOf, Try.underlying25]
  go_simp
set_option maxRecDepth 100000
set_option maxHeartbeats 4000000
theorem ins_self (w : World) (i : Ins) : (Op.equalIn 10000 27 (insV i) (insV i)).run Try.prog w = .ok true w := by
  have u4 := Try.underlying3
  have z4 := Try.isAgg3
  have u5 := Try.underlying22
  have z5 := Try.isAgg22
  have ub := Try.underlying4
  have zb := Try.isAgg4
  have hS : Try.prog.underlying 27 = some (.struct (Try.prog.fieldsOf 27)) := by kernel_rfl
  have hp : Try.prog.stoodInHeld 27 = false := by kernel_rfl
  have ho := fun (a0 a1 a2 a3 a4 a5 : Int) => opd_self w 9997 a0 a1 a2 a3 a4 a5
  unfold insV insC
  rw [show (10000 : Nat) = 9999 + 1 from rfl, run_equalIn_agg w 9999 27 _ _ hS hp]
  simp only [Program.fieldsOf, Try.underlying27]
  go_simp
set_option maxRecDepth 512
theorem ins_eql (w : World) (i : Ins) : (binOp .eql 27 (insV i) (insV i)).run Try.prog w = .ok (.bool true) w := by
  show (binOp .eql 27 (.agg (insC i)) (.agg (insC i))).run Try.prog w = _
  rw [run_eql_struct]
  show ((Op.equalIn 10000 27 (insV i) (insV i)).run Try.prog w).andThen _ = _
  rw [ins_self]
  rfl
theorem wpList_eql_ins {ops : Array Oper} {rest : List Oper} {op : Oper} {a : Act} {w : World} {Q : Exit → Act → World → Prop} (hgd : op.guard = none) (x y : Operand) (ho : op.op = .binOp .eql 27 x y 27) (i : Ins) (hx : a.eval x = insV i) (hy : a.eval y = insV i)
    (hK : wpList Try.prog ops Q rest (a.put op.dst (.bool true)) w) : wpList Try.prog ops Q (op :: rest) a w :=
  wpList_plain hgd fun _ hh => by
    have hg : (eqGuard .eql 27 x y (insV i) (insV i)).run Try.prog w = .ok () w := run_eqGuard_agg w .eql 27 x y (insC i) (insC i) ins_guard1
    unfold Oper.wp execOp
    rw [ho]
    simp only [Sem.run_bind, hx, hy, hg, Result.andThen_ok, ins_eql, Sem.run_pure]
    exact hh _ _ hK
end
section
theorem eight (q : Int) (h0 : 0 ≤ q) (h1 : q < 8) : q = 0 ∨ q = 1 ∨ q = 2 ∨ q = 3 ∨ q = 4 ∨ q = 5 ∨ q = 6 ∨ q = 7 := by omega
end
end Go.Proofs.Ytlnahkkemjgjbaa
