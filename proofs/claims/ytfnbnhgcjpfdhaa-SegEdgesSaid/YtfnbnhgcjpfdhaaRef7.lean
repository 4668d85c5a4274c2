/- What the document's own segments (package salternref6) answer. -/
import Derived.Test.YtfnbnhgcjpfdhaaRows
import Derived.Test.YtfnbnhgcjpfdhaaPure7
import Derived.ProofKit
import Derived.OpenShut
import Derived.BigRegion
import Derived.Lib.Hide
import Derived.WalkLawsBesides
namespace Go.Proofs.Ytfnbnhgcjpfdhaa
open Go.ChangeShapes Go.WideShapes Go.ChangeAt Go.RowKit

theorem rsegright_any (b z : Int) (r q x : Bool) (b0 : 0 ≤ b) (b1 : b < 4294967296) (z0 : 0 ≤ z) (z1 : z < 4294967296) (w : World) : Calls Try.prog 13 #[.agg #[.int .u32 b, .int .u32 z, .bool r, .bool q, .bool x]] w fun e w' => e = .returned (.bool (segR b z)) ∧ Below w.heap.size w w' := by
  go_enter Try.func13, Try.ntmps13
  go_wp2
  go_ret
  exact ⟨rfl, below_last (Below.refl _ _) _⟩
theorem rwithin_any (b z a : Int) (r q x : Bool) (b0 : 0 ≤ b) (b1 : b < 4294967296) (z0 : 0 ≤ z) (z1 : z < 4294967296) (a0 : 0 ≤ a) (a1 : a < 4294967296) (w : World) : Calls Try.prog 11 #[.agg #[.int .u32 b, .int .u32 z, .bool r, .bool q, .bool x], .int .u32 a] w fun e w' => e = .returned (.bool (inB b z a)) ∧ Below w.heap.size w w' := by
  rcases Int.lt_or_le a b with h | h
  · have hV := Lib.hid (show inB b z a = false by unfold inB; rw [decide_eq_false (by omega), Bool.false_and])
    go_enter Try.func11, Try.ntmps11
    go_wp2
    go_ret
    exact ⟨by rw [hV.out]; rfl, below_last (Below.refl _ _) _⟩
  · have hV := Lib.hid (show inB b z a = decide (a < b + z) by unfold inB; rw [decide_eq_true h, Bool.true_and])
    go_enter Try.func11, Try.ntmps11
    go_wp2
    go_ret
    exact ⟨by rw [hV.out]; rfl, below_last (Below.refl _ _) _⟩
set_option maxHeartbeats 8000000 in
theorem rat_any (b z : Int) (r q x : Bool) (off n what : Int) (b0 : 0 ≤ b) (b1 : b < 4294967296) (z0 : 0 ≤ z) (z1 : z < 4294967296) (o0 : 0 ≤ off) (o1 : off < 4294967296) (w : World) : Calls Try.prog 9 #[.agg #[.int .u32 b, .int .u32 z, .bool r, .bool q, .bool x], .int .u32 off, .int .i64 n, .int .i64 what] w fun e w' => e = .returned (.tuple #[.int .u32 (atV b z r q x off n what), .int .i64 (atE b z r q x off n what)]) ∧ Below w.heap.size w w' := by
  have hn : n < 1 ∨ (1 ≤ n ∧ n ≤ 16) ∨ 16 < n := by omega
  have c0 := clampN_lo n
  have c1 := clampN_hi n
  have hw : what = 0 ∨ what = 1 ∨ what = 2 ∨ ((what == 0) = false ∧ (what == 1) = false ∧ (what == 2) = false) := by
    simp only [beq_eq_false_iff_ne, ne_eq]; omega
  have hno : mayB r q x what = false → atV b z r q x off n what = 0 ∧ atE b z r q x off n what = 25 := by
    intro h; unfold atV atE; rw [h]; exact ⟨rfl, rfl⟩
  have hyes : mayB r q x what = true → fitB b z off n = true → atV b z r q x off n what = b + off ∧ atE b z r q x off n what = 0 := by
    intro h h2; unfold atV atE; rw [h, h2]; exact ⟨rfl, rfl⟩
  have hun : mayB r q x what = true → fitB b z off n = false → atV b z r q x off n what = 0 ∧ atE b z r q x off n what = 24 := by
    intro h h2; unfold atV atE; rw [h, h2]; exact ⟨rfl, rfl⟩
  have hcl : clampN n = (if n < 1 then 1 else if 16 < n then 16 else n) := rfl
  have hother : (what == 0) = false → (what == 1) = false → (what == 2) = false → mayB r q x what = false := by
    intro h1 h2 h3; unfold mayB; rw [if_neg (by simpa using h1), if_neg (by simpa using h2), if_neg (by simpa using h3)]
  have hf : (segR b z = false ∧ fitB b z off n = false) ∨ (segR b z = true ∧ z < off + clampN n ∧ fitB b z off n = false) ∨ (segR b z = true ∧ off + clampN n ≤ z ∧ fitB b z off n = true ∧ b + off < 4294967296) := by
    unfold fitB
    cases hs : segR b z
    · exact .inl ⟨rfl, rfl⟩
    · unfold segR at hs
      simp only [decide_eq_true_eq] at hs
      by_cases h : off + clampN n ≤ z
      · exact .inr (.inr ⟨rfl, h, by rw [decide_eq_true h]; rfl, by omega⟩)
      · exact .inr (.inl ⟨rfl, by omega, by rw [decide_eq_false h]; rfl⟩)
  rcases hn with hn | ⟨hn, hn'⟩ | hn
  all_goals
    rw [hcl] at hf
    first | rw [if_pos hn] at hf | (rw [if_neg (by omega), if_neg (by omega)] at hf) | (rw [if_neg (by omega), if_pos hn] at hf)
    clear hcl c0 c1
    rcases hw with rfl | rfl | rfl | ⟨h0, h1, h2⟩
    · cases r
      · obtain ⟨hv, he⟩ := hno rfl
        have hV := Lib.hid hv
        have hE := Lib.hid he
        clear hno hyes hun hother hv he hf
        go_enter Try.func9, Try.ntmps9
        go_wp2_with (go_at_call 13; refine (rsegright_any b z _ _ _ b0 b1 z0 z1 _).mono ?_; rintro e w1 ⟨rfl, hb1⟩; obtain ⟨hc, hz⟩ := bcell hb1)
        go_ret2
        exact ⟨by rw [hV.out, hE.out]; rfl, by first | exact below_last (Below.refl _ _) _ | exact below_next (Below.refl _ _) hb1⟩
      · rcases hf with ⟨hs, hf⟩ | ⟨hs, hl, hf⟩ | ⟨hs, hl, hf, hl2⟩
        · obtain ⟨hv, he⟩ := hun rfl hf
          have hV := Lib.hid hv
          have hE := Lib.hid he
          clear hno hyes hun hother hv he hf
          go_enter Try.func9, Try.ntmps9
          go_wp2_with (go_at_call 13; refine (rsegright_any b z _ _ _ b0 b1 z0 z1 _).mono ?_; rintro e w1 ⟨rfl, hb1⟩; obtain ⟨hc, hz⟩ := bcell hb1)
          go_ret2
          exact ⟨by rw [hV.out, hE.out]; rfl, by first | exact below_last (Below.refl _ _) _ | exact below_next (Below.refl _ _) hb1⟩
        · obtain ⟨hv, he⟩ := hun rfl hf
          have hV := Lib.hid hv
          have hE := Lib.hid he
          clear hno hyes hun hother hv he hf
          go_enter Try.func9, Try.ntmps9
          go_wp2_with (go_at_call 13; refine (rsegright_any b z _ _ _ b0 b1 z0 z1 _).mono ?_; rintro e w1 ⟨rfl, hb1⟩; obtain ⟨hc, hz⟩ := bcell hb1)
          go_ret2
          exact ⟨by rw [hV.out, hE.out]; rfl, by first | exact below_last (Below.refl _ _) _ | exact below_next (Below.refl _ _) hb1⟩
        · obtain ⟨hv, he⟩ := hyes rfl hf
          have hV := Lib.hid hv
          have hE := Lib.hid he
          clear hno hyes hun hother hv he hf
          go_enter Try.func9, Try.ntmps9
          go_wp2_with (go_at_call 13; refine (rsegright_any b z _ _ _ b0 b1 z0 z1 _).mono ?_; rintro e w1 ⟨rfl, hb1⟩; obtain ⟨hc, hz⟩ := bcell hb1)
          go_ret2
          exact ⟨by rw [hV.out, hE.out]; rfl, by first | exact below_last (Below.refl _ _) _ | exact below_next (Below.refl _ _) hb1⟩
    · cases q
      · obtain ⟨hv, he⟩ := hno rfl
        have hV := Lib.hid hv
        have hE := Lib.hid he
        clear hno hyes hun hother hv he hf
        go_enter Try.func9, Try.ntmps9
        go_wp2_with (go_at_call 13; refine (rsegright_any b z _ _ _ b0 b1 z0 z1 _).mono ?_; rintro e w1 ⟨rfl, hb1⟩; obtain ⟨hc, hz⟩ := bcell hb1)
        go_ret2
        exact ⟨by rw [hV.out, hE.out]; rfl, by first | exact below_last (Below.refl _ _) _ | exact below_next (Below.refl _ _) hb1⟩
      · rcases hf with ⟨hs, hf⟩ | ⟨hs, hl, hf⟩ | ⟨hs, hl, hf, hl2⟩
        · obtain ⟨hv, he⟩ := hun rfl hf
          have hV := Lib.hid hv
          have hE := Lib.hid he
          clear hno hyes hun hother hv he hf
          go_enter Try.func9, Try.ntmps9
          go_wp2_with (go_at_call 13; refine (rsegright_any b z _ _ _ b0 b1 z0 z1 _).mono ?_; rintro e w1 ⟨rfl, hb1⟩; obtain ⟨hc, hz⟩ := bcell hb1)
          go_ret2
          exact ⟨by rw [hV.out, hE.out]; rfl, by first | exact below_last (Below.refl _ _) _ | exact below_next (Below.refl _ _) hb1⟩
        · obtain ⟨hv, he⟩ := hun rfl hf
          have hV := Lib.hid hv
          have hE := Lib.hid he
          clear hno hyes hun hother hv he hf
          go_enter Try.func9, Try.ntmps9
          go_wp2_with (go_at_call 13; refine (rsegright_any b z _ _ _ b0 b1 z0 z1 _).mono ?_; rintro e w1 ⟨rfl, hb1⟩; obtain ⟨hc, hz⟩ := bcell hb1)
          go_ret2
          exact ⟨by rw [hV.out, hE.out]; rfl, by first | exact below_last (Below.refl _ _) _ | exact below_next (Below.refl _ _) hb1⟩
        · obtain ⟨hv, he⟩ := hyes rfl hf
          have hV := Lib.hid hv
          have hE := Lib.hid he
          clear hno hyes hun hother hv he hf
          go_enter Try.func9, Try.ntmps9
          go_wp2_with (go_at_call 13; refine (rsegright_any b z _ _ _ b0 b1 z0 z1 _).mono ?_; rintro e w1 ⟨rfl, hb1⟩; obtain ⟨hc, hz⟩ := bcell hb1)
          go_ret2
          exact ⟨by rw [hV.out, hE.out]; rfl, by first | exact below_last (Below.refl _ _) _ | exact below_next (Below.refl _ _) hb1⟩
    · cases x
      · obtain ⟨hv, he⟩ := hno rfl
        have hV := Lib.hid hv
        have hE := Lib.hid he
        clear hno hyes hun hother hv he hf
        go_enter Try.func9, Try.ntmps9
        go_wp2_with (go_at_call 13; refine (rsegright_any b z _ _ _ b0 b1 z0 z1 _).mono ?_; rintro e w1 ⟨rfl, hb1⟩; obtain ⟨hc, hz⟩ := bcell hb1)
        go_ret2
        exact ⟨by rw [hV.out, hE.out]; rfl, by first | exact below_last (Below.refl _ _) _ | exact below_next (Below.refl _ _) hb1⟩
      · rcases hf with ⟨hs, hf⟩ | ⟨hs, hl, hf⟩ | ⟨hs, hl, hf, hl2⟩
        · obtain ⟨hv, he⟩ := hun rfl hf
          have hV := Lib.hid hv
          have hE := Lib.hid he
          clear hno hyes hun hother hv he hf
          go_enter Try.func9, Try.ntmps9
          go_wp2_with (go_at_call 13; refine (rsegright_any b z _ _ _ b0 b1 z0 z1 _).mono ?_; rintro e w1 ⟨rfl, hb1⟩; obtain ⟨hc, hz⟩ := bcell hb1)
          go_ret2
          exact ⟨by rw [hV.out, hE.out]; rfl, by first | exact below_last (Below.refl _ _) _ | exact below_next (Below.refl _ _) hb1⟩
        · obtain ⟨hv, he⟩ := hun rfl hf
          have hV := Lib.hid hv
          have hE := Lib.hid he
          clear hno hyes hun hother hv he hf
          go_enter Try.func9, Try.ntmps9
          go_wp2_with (go_at_call 13; refine (rsegright_any b z _ _ _ b0 b1 z0 z1 _).mono ?_; rintro e w1 ⟨rfl, hb1⟩; obtain ⟨hc, hz⟩ := bcell hb1)
          go_ret2
          exact ⟨by rw [hV.out, hE.out]; rfl, by first | exact below_last (Below.refl _ _) _ | exact below_next (Below.refl _ _) hb1⟩
        · obtain ⟨hv, he⟩ := hyes rfl hf
          have hV := Lib.hid hv
          have hE := Lib.hid he
          clear hno hyes hun hother hv he hf
          go_enter Try.func9, Try.ntmps9
          go_wp2_with (go_at_call 13; refine (rsegright_any b z _ _ _ b0 b1 z0 z1 _).mono ?_; rintro e w1 ⟨rfl, hb1⟩; obtain ⟨hc, hz⟩ := bcell hb1)
          go_ret2
          exact ⟨by rw [hV.out, hE.out]; rfl, by first | exact below_last (Below.refl _ _) _ | exact below_next (Below.refl _ _) hb1⟩
    · obtain ⟨hv, he⟩ := hno (hother h0 h1 h2)
      have hV := Lib.hid hv
      have hE := Lib.hid he
      clear hno hyes hun hother hv he hf
      go_enter Try.func9, Try.ntmps9
      go_wp2_with (go_at_call 13; refine (rsegright_any b z _ _ _ b0 b1 z0 z1 _).mono ?_; rintro e w1 ⟨rfl, hb1⟩; obtain ⟨hc, hz⟩ := bcell hb1)
      go_ret2
      exact ⟨by rw [hV.out, hE.out]; rfl, by first | exact below_last (Below.refl _ _) _ | exact below_next (Below.refl _ _) hb1⟩
end Go.Proofs.Ytfnbnhgcjpfdhaa
