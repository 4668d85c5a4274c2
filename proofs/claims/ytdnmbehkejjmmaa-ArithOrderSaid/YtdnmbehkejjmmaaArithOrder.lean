/- Sums go in any order, round their size, and a number less itself is nought: for every three numbers of 32 bits and every size. -/
import Derived.Test.YtdnmbehkejjmmaaKnown1
import Derived.Test.YtdnmbehkejjmmaaShut
namespace Go.Proofs.Ytdnmbehkejjmmaa
open Go.ChangeShapes Go.WideShapes Go.ChangeAt Go.RowKit

theorem addV_comm (a b n : Int) (c : Bool) : addV b a n c = addV a b n c := by
  unfold addV; rw [Int.add_comm (cut b n) (cut a n)]
theorem addC_comm (a b n : Int) (c : Bool) : addC b a n c = addC a b n c := by
  unfold addC; rw [Int.add_comm (cut b n) (cut a n)]
theorem addO_comm (a b n : Int) (c : Bool) : addO b a n c = addO a b n c := by
  unfold addO
  rw [addV_comm]
  cases hi (cut a n) n <;> cases hi (cut b n) n <;> cases hi (addV a b n c) n <;> rfl
theorem addV_assoc (a b c n : Int) : addV (addV a b n false) c n false = addV a (addV b c n false) n false := by
  unfold addV
  rw [cut_cut, cut_cut]
  simp only [Bool.toNat_false]
  unfold cut
  rcases wid_cases n with h | h | h <;> rw [h] <;> omega
theorem subV_self (a n : Int) : subV a a n false = 0 := by
  unfold subV
  simp only [Bool.toNat_false]
  unfold cut
  rcases wid_cases n with h | h | h <;> rw [h] <;> omega
theorem subC_self (a n : Int) : subC a a n false = false := by
  unfold subC
  simp only [Bool.toNat_false]
  simp
theorem hi_zero (n : Int) : hi 0 n = false := by
  unfold hi bt
  rcases wid_cases n with h | h | h <;> rw [h] <;> decide
theorem subO_self (a n : Int) : subO a a n false = false := by
  unfold subO
  cases hi (cut a n) n <;> rfl

theorem o_comm (a b n : Int) (w : World) : Calls Try.prog 10 #[.int .u32 b, .int .u32 a, .int .i64 n, .bool false] w fun e w' =>
   e = .returned (.tuple #[.int .u32 (addV a b n false), .agg #[.bool (addC a b n false), .bool (par (addV a b n false)), .bool (zer (addV a b n false)), .bool (hi (addV a b n false) n), .bool (addO a b n false), .bool false]]) ∧ Below w.heap.size w w' := by
  have h := add_any b a n false w
  rw [addV_comm, addC_comm, addO_comm] at h
  exact h
theorem o_left (a b c n : Int) (w : World) : Calls Try.prog 10 #[.int .u32 (addV a b n false), .int .u32 c, .int .i64 n, .bool false] w fun e w' =>
   ∃ x0 x1 x2 x3 x4 x5 : Bool, e = .returned (.tuple #[.int .u32 (addV a (addV b c n false) n false), .agg #[.bool x0, .bool x1, .bool x2, .bool x3, .bool x4, .bool x5]]) ∧ Below w.heap.size w w' := by
  have h := add_any (addV a b n false) c n false w
  rw [addV_assoc] at h
  exact h.mono fun _ _ ⟨h1, h2⟩ => ⟨_, _, _, _, _, _, h1, h2⟩
theorem o_any (a b n : Int) (w : World) : Calls Try.prog 10 #[.int .u32 a, .int .u32 b, .int .i64 n, .bool false] w fun e w' =>
   ∃ x0 x1 x2 x3 x4 x5 : Bool, e = .returned (.tuple #[.int .u32 (addV a b n false), .agg #[.bool x0, .bool x1, .bool x2, .bool x3, .bool x4, .bool x5]]) ∧ Below w.heap.size w w' :=
  (add_any a b n false w).mono fun _ _ ⟨h1, h2⟩ => ⟨_, _, _, _, _, _, h1, h2⟩
theorem o_self (a n : Int) (w : World) : Calls Try.prog 12 #[.int .u32 a, .int .u32 a, .int .i64 n, .bool false] w fun e w' =>
   e = .returned (.tuple #[.int .u32 0, .agg #[.bool false, .bool true, .bool true, .bool false, .bool false, .bool false]]) ∧ Below w.heap.size w w' := by
  have h := sub_any a a n false w
  rw [subV_self, subC_self, subO_self, hi_zero] at h
  exact h

attribute [local go_sem] isSome_setCell flags_guard flags_eql flags_neq
set_option maxHeartbeats 2000000 in
theorem order_walk (a b c n : Int) (w : World) :
    Calls Try.prog 7 #[.int .u32 a, .int .u32 b, .int .u32 c, .int .i64 n] w fun e w' => e = .returned (.bool true) ∧ Below w.heap.size w w' := by
  go_enter Try.func7, Try.ntmps7
  go_wp2_with (first | (go_at_call 9; refine (known1_any _).mono ?_; rintro e w1 ⟨rfl, hb1⟩; obtain ⟨hc1, hf1⟩ := bcell hb1) | fail)
  go_wp2_with fail
  refine (add_any a b n false _).mono ?_
  rintro e w2 ⟨rfl, hb2⟩; obtain ⟨hc2, hf2⟩ := bcell hb2
  have hz2 := hb2.size
  go_wp2_with fail
  refine (o_comm a b n _).mono ?_
  rintro e w3 ⟨rfl, hb3⟩; obtain ⟨hc3, hf3⟩ := bcell hb3
  have hz3 : w2.heap.size < w3.heap.size := bsize hb3
  go_wp2_with fail
  refine (o_left a b c n _).mono ?_
  rintro e w4 ⟨x0, x1, x2, x3, x4, x5, rfl, hb4⟩; obtain ⟨hc4, hf4⟩ := bcell hb4
  have hz4 : w3.heap.size < w4.heap.size := bsize hb4
  have hz42 : w2.heap.size < w4.heap.size := (by omega)
  have hz43 : w2.heap.size < w3.heap.size + 1 := (by omega)
  go_wp2_with fail
  refine (o_any b c n _).mono ?_
  rintro e w5 ⟨y0, y1, y2, y3, y4, y5, rfl, hb5⟩; obtain ⟨hc5, hf5⟩ := bcell hb5
  have hz5 := bsize hb5
  have hz52 : w2.heap.size < w5.heap.size := (by omega)
  have hz53 : w3.heap.size < w5.heap.size := (by omega)
  go_wp2_with fail
  refine (o_any a (addV b c n false) n _).mono ?_
  rintro e w6 ⟨u0, u1, u2, u3, u4, u5, rfl, hb6⟩; obtain ⟨hc6, hf6⟩ := bcell hb6
  have hz6 := bsize hb6
  have hz62 : w2.heap.size < w6.heap.size := (by omega)
  have hz63 : w3.heap.size < w6.heap.size := (by omega)
  go_wp2_with fail
  refine (o_self a n _).mono ?_
  rintro e w7 ⟨rfl, hb7⟩; obtain ⟨hc7, hf7⟩ := bcell hb7
  have hz7 := bsize hb7
  have hz72 : w2.heap.size < w7.heap.size := (by omega)
  have hz73 : w3.heap.size < w7.heap.size := (by omega)
  go_wp2_with fail
  go_ret
  exact ⟨rfl, below_last (below_next (below_next (below_next (below_next (below_next (hb1.trans (hb2.mono hb1.size)) hb3) hb4) hb5) hb6) hb7) _⟩

theorem arithOrder_own : ownKnob Try.prog.godebug = none := by kernel_rfl
set_option maxRecDepth 100000 in
theorem arithOrder_lifted (os : Os) (started : os.Started) (H : Type) (enc : TypeId × Value → H) :
    ReturnsInHanded {} Try.checked os 7 .any (Rows.arithOrderSpec.pre6 enc Try.prog Try.f7 Rows.arithOrderRow.domain false) (Rows.arithOrderSpec.post enc Try.prog Try.f7 false true false false) := by
  refine returnsInHanded_of_change (C := Try.checked) arithOrder_own started (by kernel_rfl) Try.func7
    (ChangeSpec.witness6 (enc := enc) (C := Try.checked) false ⟨#[], #[.int .u32 0, .int .u32 0, .int .u32 0, .int .i64 0], []⟩ 8 (by kernel_rfl) (by kernel_rfl) (by kernel_rfl) (by kernel_rfl)) ?_
  intro W base args ds gs before hval0 hW hcnd _
  have hval : ∀ (j : Nat) t v, Try.f7.params[j]? = some t → args[j]? = some v → Value.okWide Try.prog W .any base t v := hval0
  have hW' := hW
  obtain ⟨p, q, hA0, hV, rfl, hfz, hnd⟩ := hW
  have hA : DataW.TrodAll enc Try.prog W 0 (fun _ => true) true Try.f7.params.toList args.toList ds p := hA0
  rw [Try.params7] at hA hval
  obtain ⟨v0, vs0, d0, ds0, p0, q0, hargs, rfl, rfl, h0, r0⟩ := trodAll_cons hA
  obtain ⟨v1, vs1, d1, ds1, p1, q1, rfl, rfl, rfl, h1, r1⟩ := trodAll_cons r0
  obtain ⟨v2, vs2, d2, ds2, p2, q2, rfl, rfl, rfl, h2, r2⟩ := trodAll_cons r1
  obtain ⟨v3, vs3, d3, ds3, p3, q3, rfl, rfl, rfl, h3, r3⟩ := trodAll_cons r2
  obtain ⟨rfl, rfl, rfl⟩ := trodAll_nil r3
  obtain rfl : args = #[v0, v1, v2, v3] := by cases args; simp_all
  obtain ⟨rfl, rfl⟩ := trodVars_none hV
  obtain ⟨a0, rfl, rfl, rfl, w0⟩ := open_int Try.underlying22 (hval 0 22 v0 rfl rfl) h0
  obtain ⟨a1, rfl, rfl, rfl, w1⟩ := open_int Try.underlying22 (hval 1 22 v1 rfl rfl) h1
  obtain ⟨a2, rfl, rfl, rfl, w2⟩ := open_int Try.underlying22 (hval 2 22 v2 rfl rfl) h2
  obtain ⟨a3, rfl, rfl, rfl, w3⟩ := open_int Try.underlying3 (hval 3 3 v3 rfl rfl) h3
  clear hA0 hval0
  simp only [List.append_nil] at hW'
  refine (order_walk a0 a1 a2 a3 W ).mono fun e W' ⟨he, hg⟩ => ?_
  subst he
  exact ⟨_, rfl, post_plain hW' hg (fun sp => (trodAll_cons_mk (shut_int Try.underlying22 w0) (trodAll_cons_mk (shut_int Try.underlying22 w1) (trodAll_cons_mk (shut_int Try.underlying22 w2) (trodAll_cons_mk (shut_int Try.underlying3 w3) trodAll_mk0))))) (fun _ => rfl)
    (fun _ _ _ => (trodAll_cons_mk (shut_bool Try.underlying4 _) trodAll_mk0)) (ok_one (by kernel_rfl) rfl (okWide_bool_mk Try.underlying4 _))⟩

theorem arithOrder_holds : Rows.ArithOrderSaid :=
  OpenClaim.holds_of_wide 7 Try.f7 rfl rfl rfl rfl rfl rfl rfl ⟨rfl, rfl, rfl, rfl, rfl⟩ rfl rfl rfl rfl rfl (by kernel_rfl) Try.func7 (by kernel_rfl)
    (of_decide_eq_true (by kernel_rfl)) (by unfold Func.isWrapper; first | (rw [if_pos (by decide +kernel)]; kernel_rfl) | (rw [if_neg (by decide +kernel)]; exact ⟨rfl, rfl⟩))
    (fun os started H enc _ => arithOrder_lifted os started H enc)
#print axioms arithOrder_holds
end Go.Proofs.Ytdnmbehkejjmmaa
