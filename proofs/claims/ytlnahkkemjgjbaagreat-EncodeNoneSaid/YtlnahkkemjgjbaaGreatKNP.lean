import Derived.KernelRfl
import Derived.Laws.StructEq
import Derived.Test.YtlnahkkemjgjbaaGreatKNE
namespace Go.Proofs.YtlnahkkemjgjbaaGreat
section
def alike (n:Nat) (bs bs':Nat→Int):Prop:=∀ i,i < n→bs' i=bs i
theorem disp_alike {k:Nat} {bs bs':Nat→Int} {m n:Nat} (ha:alike n bs bs') (h:m+k ≤ n):disp9 k bs' m=disp9 k bs m:=by
  unfold disp9
  by_cases h1:k=1
  · rw [if_pos h1,if_pos h1,ha m (by omega)]
  · rw [if_neg h1,if_neg h1]
    by_cases h4:k=4
    · rw [if_pos h4,if_pos h4,ha m (by omega),ha (m+1) (by omega),ha (m+2) (by omega),ha (m+3) (by omega)]
    · rw [if_neg h4,if_neg h4]
theorem rm_more {L n:Nat} {bs:Nat→Int} {o:Opd} {r:Int} (h:rmF L bs=some (o,r,n)):1 ≤ n∧n ≤ L∧∀ L' bs',alike n bs bs'→(n ≤ L'→rmF L' bs'=some (o,r,n))∧(L' < n→rmF L' bs'=none):=by
  unfold rmF at h
  by_cases h0:L=0
  · rw [if_pos h0] at h;cases h
  rw [if_neg h0] at h
  by_cases h3:bs 0 / 64=3
  · rw [if_pos h3] at h
    cases h
    refine ⟨by omega,by omega,fun L' bs' ha=>⟨fun hL=>?_,fun hL=>?_⟩⟩
    · unfold rmF;rw [if_neg (by omega),ha 0 (by omega),if_pos h3]
    · unfold rmF;rw [if_pos (by omega)]
  rw [if_neg h3] at h
  by_cases h4:bs 0 % 8=4
  · rw [if_pos h4] at h
    by_cases h2:L < 2
    · rw [if_pos h2] at h;cases h
    rw [if_neg h2] at h
    by_cases h5:L < 2+more9 (bs 0 / 64) (bs 1 % 8)
    · rw [if_pos h5] at h;cases h
    rw [if_neg h5] at h
    cases h
    refine ⟨by omega,by omega,fun L' bs' ha=>?_⟩
    have e0:=ha 0 (by omega)
    have e1:=ha 1 (by omega)
    refine ⟨fun hL=>?_,fun hL=>?_⟩
    · unfold rmF
      rw [if_neg (by omega),e0,e1,if_neg h3,if_pos h4,if_neg (by omega),if_neg (by omega),disp_alike ha (by omega)]
    · unfold rmF
      by_cases k0:L'=0
      · rw [if_pos k0]
      rw [if_neg k0,e0,if_neg h3,if_pos h4]
      by_cases k1:L' < 2
      · rw [if_pos k1]
      rw [if_neg k1,e1,if_pos (by omega)]
  · rw [if_neg h4] at h
    by_cases h5:L < 1+more9 (bs 0 / 64) (bs 0 % 8)
    · rw [if_pos h5] at h;cases h
    rw [if_neg h5] at h
    cases h
    refine ⟨by omega,by omega,fun L' bs' ha=>?_⟩
    have e0:=ha 0 (by omega)
    refine ⟨fun hL=>?_,fun hL=>?_⟩
    · unfold rmF
      rw [if_neg (by omega),e0,if_neg h3,if_neg h4,if_neg (by omega),disp_alike ha (by omega)]
    · unfold rmF
      by_cases k0:L'=0
      · rw [if_pos k0]
      rw [if_neg k0,e0,if_neg h3,if_neg h4,if_pos (by omega)]
theorem behF_in (L:Nat) (bs:Nat→Int) (k:Nat):-1 ≤ behF L bs k∧behF L bs k < 8:=by unfold behF;split <;> omega
end
section
open Go.ChangeShapes Go.WideShapes Go.ChangeAt Go.RowKit
theorem ins_guard1:Tryz.prog.eqGuardType Tryz.prog.depth 26=false:=by kernel_rfl
end
section
theorem eight (q:Int) (h0:0 ≤ q) (h1:q < 8):q=0 ∨ q=1 ∨ q=2 ∨ q=3 ∨ q=4 ∨ q=5 ∨ q=6 ∨ q=7:=by omega
end
end Go.Proofs.YtlnahkkemjgjbaaGreat
