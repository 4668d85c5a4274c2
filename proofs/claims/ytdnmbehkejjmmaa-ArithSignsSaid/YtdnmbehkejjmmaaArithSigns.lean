/- A number and its sign are the number again, and a step goes over just at the edges: for every number of 32 bits and all flags. -/
import Derived.Test.YtdnmbehkejjmmaaKnown1
import Derived.Test.YtdnmbehkejjmmaaShut
import Derived.Test.YtdnmbehkejjmmaaStep
namespace Go.Proofs.Ytdnmbehkejjmmaa
open Go.ChangeShapes Go.WideShapes Go.ChangeAt Go.RowKit

theorem cut_sgn (v n : Int) : cut (sgn v n % 4294967296) n = cut v n := by
  rw [cut_cut32]
  unfold sgn
  split
  · have h := cut_cut v n
    unfold cut at h ⊢
    rcases wid_cases n with h' | h' | h' <;> rw [h'] at h ⊢ <;> omega
  · exact cut_cut v n
theorem cut_one (n : Int) : cut 1 n = 1 := by
  unfold cut
  rcases wid_cases n with h | h | h <;> rw [h] <;> decide
theorem bt_dec (x : Int) (k : Nat) (p : Prop) [Decidable p] (h : x / 2 ^ k % 2 = 1 ↔ p) : bt x k = decide p := by
  unfold bt; congr 1; exact propext h
theorem addO_one (v n : Int) : addO v 1 n false = (cut v n == 2 ^ (wid n - 1) - 1) := by
  have x0 := cut_lo v n
  have x1 := cut_wid v n
  unfold addO addV
  rw [cut_one]
  unfold hi
  simp only [Bool.toNat_false]
  generalize cut v n = x at *
  unfold cut
  rw [Bool.eq_iff_iff]
  rcases wid_cases n with h | h | h <;> rw [h] at x1 ⊢ <;> simp [bt] at x1 ⊢ <;> omega
theorem subO_one (v n : Int) : subO v 1 n false = (cut v n == 2 ^ (wid n - 1)) := by
  have x0 := cut_lo v n
  have x1 := cut_wid v n
  unfold subO subV
  rw [cut_one]
  unfold hi
  simp only [Bool.toNat_false]
  generalize cut v n = x at *
  unfold cut
  rw [Bool.eq_iff_iff]
  rcases wid_cases n with h | h | h <;> rw [h] at x1 ⊢ <;> simp [bt] at x1 ⊢ <;> omega

theorem up_any (fc fp fz fs fo fd : Bool) (v m M : Int) (hM : 2 ^ (wid m - 1) - 1 = M) (w : World) : Calls Try.prog 16 #[.agg #[.bool fc, .bool fp, .bool fz, .bool fs, .bool fo, .bool fd], .int .u32 v, .int .i64 m, .int .i64 1] w fun e w' =>
   e = .returned (.tuple #[.int .u32 (addV v 1 m false), .agg #[.bool fc, .bool (par (addV v 1 m false)), .bool (zer (addV v 1 m false)), .bool (hi (addV v 1 m false) m), .bool (cut v m == M), .bool fd]]) ∧ Below w.heap.size w w' := by
  have h := step_pos fc fp fz fs fo fd v m 1 (by decide) w
  rw [addO_one, hM] at h
  exact h
theorem down_any (fc fp fz fs fo fd : Bool) (v m M : Int) (hM : 2 ^ (wid m - 1) = M) (w : World) : Calls Try.prog 16 #[.agg #[.bool fc, .bool fp, .bool fz, .bool fs, .bool fo, .bool fd], .int .u32 v, .int .i64 m, .int .i64 (-1)] w fun e w' =>
   e = .returned (.tuple #[.int .u32 (subV v 1 m false), .agg #[.bool fc, .bool (par (subV v 1 m false)), .bool (zer (subV v 1 m false)), .bool (hi (subV v 1 m false) m), .bool (cut v m == M), .bool fd]]) ∧ Below w.heap.size w w' := by
  have h := step_neg fc fp fz fs fo fd v m (-1) (by decide) w
  rw [subO_one, hM] at h
  exact h
theorem cutsgn_any (v m : Int) (w : World) : Calls Try.prog 18 #[.int .u32 (sgn v m % 4294967296), .int .i64 m] w fun e w' => e = .returned (.int .u32 (cut v m)) ∧ w = w' := by
  have h := cut_any (sgn v m % 4294967296) m w
  rw [cut_sgn] at h
  exact h

attribute [local go_sem] isSome_setCell
set_option maxRecDepth 100000 in
set_option maxHeartbeats 4000000 in
theorem signs_walk (v : Int) (fc fp fz fs fo fd : Bool) (w : World) :
    Calls Try.prog 8 #[.int .u32 v, .agg #[.bool fc, .bool fp, .bool fz, .bool fs, .bool fo, .bool fd]] w fun e w' => e = .returned (.bool true) ∧ Below w.heap.size w w' := by
  go_enter Try.func8, Try.ntmps8
  go_wp2_with (go_at_call 9; refine (known1_any _).mono ?_; rintro e w1 ⟨rfl, hb1⟩)
  have hz1 := bsize hb1
  have hq1 : w1.cell? ⟨w.heap.size, 0, none⟩ = some (.bool fc) ∧ w1.cell? ⟨w.heap.size, 1, none⟩ = some (.bool fp) ∧ w1.cell? ⟨w.heap.size, 2, none⟩ = some (.bool fz) ∧ w1.cell? ⟨w.heap.size, 3, none⟩ = some (.bool fs) ∧ w1.cell? ⟨w.heap.size, 4, none⟩ = some (.bool fo) ∧ w1.cell? ⟨w.heap.size, 5, none⟩ = some (.bool fd) := six_made hb1
  go_loopw [17] (fun j wr => ∃ k : Nat, k ≤ 3 ∧ j = .int .i64 k ∧ Below (w1.heap.size + 1) (w1.alloc (.cells #[.int .i64 1, .int .i64 2, .int .i64 4] 3)) wr) (fun j _ => 3 - (intOf j).toNat)
  case atStart => exact ⟨0, by omega, rfl, Below.refl _ _⟩
  case round =>
    obtain ⟨k, hk, rfl, hr⟩ := hrel
    have hB : Below w.heap.size w wr := (below_next (Below.refl _ _) hb1).alloc (by omega) _ |>.trans (hr.mono (by omega))
    have hs := hr.size
    have hs1 : w1.heap.size + 1 ≤ wr.heap.size := by simpa using hs
    have hqr := six_call' hr (by omega) hq1
    clear hq1
    obtain rfl | rfl | rfl | rfl : k = 0 ∨ k = 1 ∨ k = 2 ∨ k = 3 := by omega
    · have hcell : wr.cell? ⟨w1.heap.size, 0, none⟩ = some (.int .i64 1) := by rw [hr.cell (by simp)]; simp
      go_wp2_with (first | (go_at_call 18; first | ((with_reducible refine (cutsgn_any v 1 _).mono ?_); rintro e w' ⟨rfl, rfl⟩) | ((with_reducible refine (cut_any v 1 _).mono ?_); rintro e w' ⟨rfl, rfl⟩)) | (go_at_call 20; refine (signed_any _ _ _).mono ?_; rintro e w' ⟨rfl, rfl⟩))
      refine (up_any fc fp fz fs fo fd v 1 127 (by decide) _).mono ?_
      rintro e w2 ⟨rfl, hb2⟩
      have hz2 := hb2.size
      have hq2 := six_call hb2 hqr
      have hz21 : w.heap.size < w2.heap.size := by omega
      clear hqr hcell
      go_wp2_with fail
      refine (down_any fc fp fz fs fo fd v 1 128 (by decide) _).mono ?_
      rintro e w3 ⟨rfl, hb3⟩
      have hz3 := bsize hb3
      have hz31 : w.heap.size < w3.heap.size := by omega
      have hq3 := six_next hb3 hq2
      have hr3 := six_made hb3
      clear hq2
      go_wp2
      go_roundw
      case rel => exact ⟨0 + 1, by omega, by go_num, ((below_on (hr.trans (hb2.mono (by omega))) (by omega) hb3).alloc (by omega) _)⟩
      case measure => simp [intOf]
    · have hcell : wr.cell? ⟨w1.heap.size, 1, none⟩ = some (.int .i64 2) := by rw [hr.cell (by simp)]; simp
      go_wp2_with (first | (go_at_call 18; first | ((with_reducible refine (cutsgn_any v 2 _).mono ?_); rintro e w' ⟨rfl, rfl⟩) | ((with_reducible refine (cut_any v 2 _).mono ?_); rintro e w' ⟨rfl, rfl⟩)) | (go_at_call 20; refine (signed_any _ _ _).mono ?_; rintro e w' ⟨rfl, rfl⟩))
      refine (up_any fc fp fz fs fo fd v 2 32767 (by decide) _).mono ?_
      rintro e w2 ⟨rfl, hb2⟩
      have hz2 := hb2.size
      have hq2 := six_call hb2 hqr
      have hz21 : w.heap.size < w2.heap.size := by omega
      clear hqr hcell
      go_wp2_with fail
      refine (down_any fc fp fz fs fo fd v 2 32768 (by decide) _).mono ?_
      rintro e w3 ⟨rfl, hb3⟩
      have hz3 := bsize hb3
      have hz31 : w.heap.size < w3.heap.size := by omega
      have hq3 := six_next hb3 hq2
      have hr3 := six_made hb3
      clear hq2
      go_wp2
      go_roundw
      case rel => exact ⟨1 + 1, by omega, by go_num, ((below_on (hr.trans (hb2.mono (by omega))) (by omega) hb3).alloc (by omega) _)⟩
      case measure => simp [intOf]
    · have hcell : wr.cell? ⟨w1.heap.size, 2, none⟩ = some (.int .i64 4) := by rw [hr.cell (by simp)]; simp
      go_wp2_with (first | (go_at_call 18; first | ((with_reducible refine (cutsgn_any v 4 _).mono ?_); rintro e w' ⟨rfl, rfl⟩) | ((with_reducible refine (cut_any v 4 _).mono ?_); rintro e w' ⟨rfl, rfl⟩)) | (go_at_call 20; refine (signed_any _ _ _).mono ?_; rintro e w' ⟨rfl, rfl⟩))
      refine (up_any fc fp fz fs fo fd v 4 2147483647 (by decide) _).mono ?_
      rintro e w2 ⟨rfl, hb2⟩
      have hz2 := hb2.size
      have hq2 := six_call hb2 hqr
      have hz21 : w.heap.size < w2.heap.size := by omega
      clear hqr hcell
      go_wp2_with fail
      refine (down_any fc fp fz fs fo fd v 4 2147483648 (by decide) _).mono ?_
      rintro e w3 ⟨rfl, hb3⟩
      have hz3 := bsize hb3
      have hz31 : w.heap.size < w3.heap.size := by omega
      have hq3 := six_next hb3 hq2
      have hr3 := six_made hb3
      clear hq2
      go_wp2
      go_roundw
      case rel => exact ⟨2 + 1, by omega, by go_num, ((below_on (hr.trans (hb2.mono (by omega))) (by omega) hb3).alloc (by omega) _)⟩
      case measure => simp [intOf]
    · go_wp2
      go_ret
      exact ⟨rfl, hB⟩

theorem arithSigns_own : ownKnob Try.prog.godebug = none := by kernel_rfl
set_option maxRecDepth 100000 in
theorem arithSigns_lifted (os : Os) (started : os.Started) (H : Type) (enc : TypeId × Value → H) :
    ReturnsInHanded {} Try.checked os 8 .any (Rows.arithSignsSpec.pre6 enc Try.prog Try.f8 Rows.arithSignsRow.domain false) (Rows.arithSignsSpec.post enc Try.prog Try.f8 false true false false) := by
  refine returnsInHanded_of_change (C := Try.checked) arithSigns_own started (by kernel_rfl) Try.func8
    (ChangeSpec.witness6 (enc := enc) (C := Try.checked) false ⟨#[], #[.int .u32 0, .agg #[.bool false, .bool false, .bool false, .bool false, .bool false, .bool false]], []⟩ 8 (by kernel_rfl) (by kernel_rfl) (by kernel_rfl) (by kernel_rfl)) ?_
  intro W base args ds gs before hval0 hW hcnd _
  have hval : ∀ (j : Nat) t v, Try.f8.params[j]? = some t → args[j]? = some v → Value.okWide Try.prog W .any base t v := hval0
  have hW' := hW
  obtain ⟨p, q, hA0, hV, rfl, hfz, hnd⟩ := hW
  have hA : DataW.TrodAll enc Try.prog W 0 (fun _ => true) true Try.f8.params.toList args.toList ds p := hA0
  rw [Try.params8] at hA hval
  obtain ⟨v0, vs0, d0, ds0, p0, q0, hargs, rfl, rfl, h0, r0⟩ := trodAll_cons hA
  obtain ⟨v1, vs1, d1, ds1, p1, q1, rfl, rfl, rfl, h1, r1⟩ := trodAll_cons r0
  obtain ⟨rfl, rfl, rfl⟩ := trodAll_nil r1
  obtain rfl : args = #[v0, v1] := by cases args; simp_all
  obtain ⟨rfl, rfl⟩ := trodVars_none hV
  obtain ⟨a0, rfl, rfl, rfl, w0⟩ := open_int Try.underlying22 (hval 0 22 v0 rfl rfl) h0
  obtain ⟨a1c, a1p, a1z, a1s, a1o, a1d, rfl, rfl, rfl⟩ := open_flags (hval 1 26 v1 rfl rfl) h1
  clear hA0 hval0
  simp only [List.append_nil] at hW'
  refine (signs_walk a0 a1c a1p a1z a1s a1o a1d W ).mono fun e W' ⟨he, hg⟩ => ?_
  subst he
  exact ⟨_, rfl, post_plain hW' hg (fun sp => (trodAll_cons_mk (shut_int Try.underlying22 w0) (trodAll_cons_mk (shut_flags _ _ _ _ _ _) trodAll_mk0))) (fun _ => rfl)
    (fun _ _ _ => (trodAll_cons_mk (shut_bool Try.underlying4 _) trodAll_mk0)) (ok_one (by kernel_rfl) rfl (okWide_bool_mk Try.underlying4 _))⟩

theorem arithSigns_holds : Rows.ArithSignsSaid :=
  OpenClaim.holds_of_wide 8 Try.f8 rfl rfl rfl rfl rfl rfl rfl ⟨rfl, rfl, rfl, rfl, rfl⟩ rfl rfl rfl rfl rfl (by kernel_rfl) Try.func8 (by kernel_rfl)
    (of_decide_eq_true (by kernel_rfl)) (by unfold Func.isWrapper; first | (rw [if_pos (by decide +kernel)]; kernel_rfl) | (rw [if_neg (by decide +kernel)]; exact ⟨rfl, rfl⟩))
    (fun os started H enc _ => arithSigns_lifted os started H enc)
#print axioms arithSigns_holds
end Go.Proofs.Ytdnmbehkejjmmaa
