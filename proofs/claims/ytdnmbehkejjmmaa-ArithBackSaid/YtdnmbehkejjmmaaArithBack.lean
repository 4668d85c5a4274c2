/- What is added is taken off again, and flags tell less, for every two numbers of 32 bits. -/
import Derived.Test.YtdnmbehkejjmmaaKnown1
import Derived.Test.YtdnmbehkejjmmaaShut
namespace Go.Proofs.Ytdnmbehkejjmmaa
open Go.ChangeShapes Go.WideShapes Go.ChangeAt Go.RowKit

theorem wid4 : wid 4 = 32 := rfl
theorem cut4 (v : Int) : cut v 4 = v % 4294967296 := rfl
theorem back_v (a b : Int) (c : Bool) (h0 : 0 ≤ a) (h1 : a < 4294967296) : subV (addV a b 4 c) b 4 c = a := by
  unfold subV addV
  simp only [cut4]
  omega
theorem back_c (a b : Int) (c : Bool) (h0 : 0 ≤ a) (h1 : a < 4294967296) (k0 : 0 ≤ b) (k1 : b < 4294967296) : subC (addV a b 4 c) b 4 c = decide (4294967295 < a + b + c.toNat) := by
  have := toNat_hi c
  have := toNat_lo c
  unfold subC addV
  simp only [cut4]
  congr 1
  exact propext (by omega)
theorem add_c (a b : Int) (c : Bool) (h0 : 0 ≤ a) (h1 : a < 4294967296) (k0 : 0 ≤ b) (k1 : b < 4294967296) : addC a b 4 c = decide (4294967295 < a + b + c.toNat) := by
  unfold addC
  simp only [cut4, wid4]
  congr 1
  exact propext (by omega)
theorem less_c (a b : Int) (h0 : 0 ≤ a) (h1 : a < 4294967296) (k0 : 0 ≤ b) (k1 : b < 4294967296) : subC a b 4 false = decide (a < b) := by
  unfold subC
  simp only [cut4, Bool.toNat_false]
  congr 1
  exact propext (by omega)
theorem less_z (a b : Int) (h0 : 0 ≤ a) (h1 : a < 4294967296) (k0 : 0 ≤ b) (k1 : b < 4294967296) : zer (subV a b 4 false) = (a == b) := by
  unfold zer subV
  simp only [cut4, Bool.toNat_false]
  rw [Bool.eq_iff_iff]
  simp only [beq_iff_eq]
  omega
theorem hi4 (v : Int) (h0 : 0 ≤ v) (h1 : v < 4294967296) : hi v 4 = decide (2147483648 ≤ v) := by
  unfold hi bt
  simp only [wid4]
  congr 1
  exact propext (by simp; omega)
theorem less_s (a b : Int) (h0 : 0 ≤ a) (h1 : a < 4294967296) (k0 : 0 ≤ b) (k1 : b < 4294967296) : (hi (subV a b 4 false) 4 != subO a b 4 false) = decide (wrap32 a < wrap32 b) := by
  have v0 := subV_lo a b 4 false
  have v1 := subV_hi a b 4 false
  unfold subO
  rw [hi4 _ v0 v1, hi4 _ (cut_lo _ _) (cut_hi _ _), hi4 _ (cut_lo _ _) (cut_hi _ _)]
  unfold subV at *
  simp only [cut4, Bool.toNat_false] at *
  unfold wrap32
  by_cases e1 : 2147483648 ≤ a % 4294967296 <;> by_cases e2 : 2147483648 ≤ b % 4294967296 <;> by_cases e3 : 2147483648 ≤ (a % 4294967296 - b % 4294967296 - ((0 : Nat) : Int)) % 4294967296 <;> simp only [e1, e2, e3, decide_true, decide_false] <;> simp <;> omega

theorem b_add (a b : Int) (c : Bool) (w : World) (h0 : 0 ≤ a) (h1 : a < 4294967296) (k0 : 0 ≤ b) (k1 : b < 4294967296) : Calls Try.prog 10 #[.int .u32 a, .int .u32 b, .int .i64 4, .bool c] w fun e w' =>
   e = .returned (.tuple #[.int .u32 (addV a b 4 c), .agg #[.bool (decide (4294967295 < a + b + c.toNat)), .bool (par (addV a b 4 c)), .bool (zer (addV a b 4 c)), .bool (hi (addV a b 4 c) 4), .bool (addO a b 4 c), .bool false]]) ∧ Below w.heap.size w w' := by
  have h := add_any a b 4 c w
  rw [add_c a b c h0 h1 k0 k1] at h
  exact h
theorem b_back (a b : Int) (c : Bool) (w : World) (h0 : 0 ≤ a) (h1 : a < 4294967296) (k0 : 0 ≤ b) (k1 : b < 4294967296) : Calls Try.prog 12 #[.int .u32 (addV a b 4 c), .int .u32 b, .int .i64 4, .bool c] w fun e w' =>
   e = .returned (.tuple #[.int .u32 a, .agg #[.bool (decide (4294967295 < a + b + c.toNat)), .bool (par a), .bool (zer a), .bool (hi a 4), .bool (subO (addV a b 4 c) b 4 c), .bool false]]) ∧ Below w.heap.size w w' := by
  have h := sub_any (addV a b 4 c) b 4 c w
  rw [back_c a b c h0 h1 k0 k1, back_v a b c h0 h1] at h
  exact h
theorem b_less (a b : Int) (w : World) (h0 : 0 ≤ a) (h1 : a < 4294967296) (k0 : 0 ≤ b) (k1 : b < 4294967296) : Calls Try.prog 12 #[.int .u32 a, .int .u32 b, .int .i64 4, .bool false] w fun e w' =>
   e = .returned (.tuple #[.int .u32 (subV a b 4 false), .agg #[.bool (decide (a < b)), .bool (par (subV a b 4 false)), .bool (a == b), .bool (hi (subV a b 4 false) 4), .bool (subO a b 4 false), .bool false]]) ∧ Below w.heap.size w w' := by
  have h := sub_any a b 4 false w
  rw [less_c a b h0 h1 k0 k1, less_z a b h0 h1 k0 k1] at h
  exact h

attribute [local go_sem] isSome_setCell flags_guard flags_eql flags_neq
set_option maxHeartbeats 1000000 in
theorem back_walk (a b : Int) (c : Bool) (w : World) (h0 : 0 ≤ a) (h1 : a < 4294967296) (k0 : 0 ≤ b) (k1 : b < 4294967296) :
    Calls Try.prog 5 #[.int .u32 a, .int .u32 b, .bool c] w fun e w' => e = .returned (.bool true) ∧ Below w.heap.size w w' := by
  have hs : (hi (subV a b 4 false) 4 == subO a b 4 false) = !decide (wrap32 a < wrap32 b) := by
    rw [← less_s a b h0 h1 k0 k1]
    cases hi (subV a b 4 false) 4 <;> cases subO a b 4 false <;> rfl
  cases c
  · go_enter Try.func5, Try.ntmps5
    go_wp2_with (first | (go_at_call 9; refine (known1_any _).mono ?_; rintro e w1 ⟨rfl, hb⟩; obtain ⟨hc, hf⟩ := bcell hb) |
      (go_at_call 10; (with_reducible refine (b_add a b false _ h0 h1 k0 k1).mono ?_); rintro e w2 ⟨rfl, hb2⟩; obtain ⟨hc2, hf2⟩ := bcell hb2; have hz : w1.heap.size ≤ w2.heap.size := hb2.size) |
      (go_at_call 12; first | ((with_reducible refine (b_back a b false _ h0 h1 k0 k1).mono ?_); rintro e w3 ⟨rfl, hb3⟩; obtain ⟨hc3, hf3⟩ := bcell hb3; have hz3 : w2.heap.size < w3.heap.size := (by have := hb3.size; simp at this; omega)) |
         ((with_reducible refine (b_less a b _ h0 h1 k0 k1).mono ?_); rintro e w4 ⟨rfl, hb4⟩; obtain ⟨hc4, hf4⟩ := bcell hb4; have hz4 : w3.heap.size < w4.heap.size := (by have := hb4.size; simp at this; omega); have hz5 : w2.heap.size < w4.heap.size := (by omega); have hz6 : w2.heap.size < w3.heap.size + 1 := (by omega))))
    go_ret
    have g1 : Below w.heap.size w w2 := hb.trans (hb2.mono hb.size)
    have g2 : Below w.heap.size w w3 := (g1.alloc g1.size _).trans (hb3.mono (by have := g1.size; simp; omega))
    have g3 : Below w.heap.size w w4 := (g2.alloc g2.size _).trans (hb4.mono (by have := g2.size; simp; omega))
    exact ⟨rfl, g3.alloc g3.size _⟩
  · go_enter Try.func5, Try.ntmps5
    go_wp2_with (first | (go_at_call 9; refine (known1_any _).mono ?_; rintro e w1 ⟨rfl, hb⟩; obtain ⟨hc, hf⟩ := bcell hb) |
      (go_at_call 10; (with_reducible refine (b_add a b true _ h0 h1 k0 k1).mono ?_); rintro e w2 ⟨rfl, hb2⟩; obtain ⟨hc2, hf2⟩ := bcell hb2; have hz : w1.heap.size ≤ w2.heap.size := hb2.size) |
      (go_at_call 12; first | ((with_reducible refine (b_back a b true _ h0 h1 k0 k1).mono ?_); rintro e w3 ⟨rfl, hb3⟩; obtain ⟨hc3, hf3⟩ := bcell hb3; have hz3 : w2.heap.size < w3.heap.size := (by have := hb3.size; simp at this; omega)) |
         ((with_reducible refine (b_less a b _ h0 h1 k0 k1).mono ?_); rintro e w4 ⟨rfl, hb4⟩; obtain ⟨hc4, hf4⟩ := bcell hb4; have hz4 : w3.heap.size < w4.heap.size := (by have := hb4.size; simp at this; omega); have hz5 : w2.heap.size < w4.heap.size := (by omega); have hz6 : w2.heap.size < w3.heap.size + 1 := (by omega))))
    go_ret
    have g1 : Below w.heap.size w w2 := hb.trans (hb2.mono hb.size)
    have g2 : Below w.heap.size w w3 := (g1.alloc g1.size _).trans (hb3.mono (by have := g1.size; simp; omega))
    have g3 : Below w.heap.size w w4 := (g2.alloc g2.size _).trans (hb4.mono (by have := g2.size; simp; omega))
    exact ⟨rfl, g3.alloc g3.size _⟩

theorem arithBack_own : ownKnob Try.prog.godebug = none := by kernel_rfl
set_option maxRecDepth 100000 in
theorem arithBack_lifted (os : Os) (started : os.Started) (H : Type) (enc : TypeId × Value → H) :
    ReturnsInHanded {} Try.checked os 5 .any (Rows.arithBackSpec.pre6 enc Try.prog Try.f5 Rows.arithBackRow.domain false) (Rows.arithBackSpec.post enc Try.prog Try.f5 false true false false) := by
  refine returnsInHanded_of_change (C := Try.checked) arithBack_own started (by kernel_rfl) Try.func5
    (ChangeSpec.witness6 (enc := enc) (C := Try.checked) false ⟨#[], #[.int .u32 0, .int .u32 0, .bool false], []⟩ 8 (by kernel_rfl) (by kernel_rfl) (by kernel_rfl) (by kernel_rfl)) ?_
  intro W base args ds gs before hval0 hW hcnd _
  have hval : ∀ (j : Nat) t v, Try.f5.params[j]? = some t → args[j]? = some v → Value.okWide Try.prog W .any base t v := hval0
  have hW' := hW
  obtain ⟨p, q, hA0, hV, rfl, hfz, hnd⟩ := hW
  have hA : DataW.TrodAll enc Try.prog W 0 (fun _ => true) true Try.f5.params.toList args.toList ds p := hA0
  rw [Try.params5] at hA hval
  obtain ⟨v0, vs0, d0, ds0, p0, q0, hargs, rfl, rfl, h0, r0⟩ := trodAll_cons hA
  obtain ⟨v1, vs1, d1, ds1, p1, q1, rfl, rfl, rfl, h1, r1⟩ := trodAll_cons r0
  obtain ⟨v2, vs2, d2, ds2, p2, q2, rfl, rfl, rfl, h2, r2⟩ := trodAll_cons r1
  obtain ⟨rfl, rfl, rfl⟩ := trodAll_nil r2
  obtain rfl : args = #[v0, v1, v2] := by cases args; simp_all
  obtain ⟨rfl, rfl⟩ := trodVars_none hV
  obtain ⟨a0, rfl, rfl, rfl, w0⟩ := open_int Try.underlying22 (hval 0 22 v0 rfl rfl) h0
  obtain ⟨a1, rfl, rfl, rfl, w1⟩ := open_int Try.underlying22 (hval 1 22 v1 rfl rfl) h1
  obtain ⟨a2, rfl, rfl, rfl⟩ := open_bool Try.underlying4 (hval 2 4 v2 rfl rfl) h2
  clear hA0 hval0
  simp only [List.append_nil] at hW'
  have b0 : 0 ≤ a0 ∧ a0 < 4294967296 := by
    have h := w0
    simp only [Lit.wf, Bool.and_eq_true, decide_eq_true_eq] at h
    have e1 : IntKind.u32.min = 0 := by decide
    have e2 : IntKind.u32.max = 4294967295 := by decide
    omega
  have b1 : 0 ≤ a1 ∧ a1 < 4294967296 := by
    have h := w1
    simp only [Lit.wf, Bool.and_eq_true, decide_eq_true_eq] at h
    have e1 : IntKind.u32.min = 0 := by decide
    have e2 : IntKind.u32.max = 4294967295 := by decide
    omega
  refine (back_walk a0 a1 a2 W b0.1 b0.2 b1.1 b1.2).mono fun e W' ⟨he, hg⟩ => ?_
  subst he
  exact ⟨_, rfl, post_plain hW' hg (fun sp => (trodAll_cons_mk (shut_int Try.underlying22 w0) (trodAll_cons_mk (shut_int Try.underlying22 w1) (trodAll_cons_mk (shut_bool Try.underlying4 _) trodAll_mk0)))) (fun _ => rfl)
    (fun _ _ _ => (trodAll_cons_mk (shut_bool Try.underlying4 _) trodAll_mk0)) (ok_one (by kernel_rfl) rfl (okWide_bool_mk Try.underlying4 _))⟩

theorem arithBack_holds : Rows.ArithBackSaid :=
  OpenClaim.holds_of_wide 5 Try.f5 rfl rfl rfl rfl rfl rfl rfl ⟨rfl, rfl, rfl, rfl, rfl⟩ rfl rfl rfl rfl rfl (by kernel_rfl) Try.func5 (by kernel_rfl)
    (of_decide_eq_true (by kernel_rfl)) (by unfold Func.isWrapper; first | (rw [if_pos (by decide +kernel)]; kernel_rfl) | (rw [if_neg (by decide +kernel)]; exact ⟨rfl, rfl⟩))
    (fun os started H enc _ => arithBack_lifted os started H enc)
#print axioms arithBack_holds
end Go.Proofs.Ytdnmbehkejjmmaa
