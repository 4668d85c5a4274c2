/- Sums and differences of whole numbers are those of their bytes, carry by carry: for every two numbers of 32 bits. -/
import Derived.Test.YtdnmbehkejjmmaaKnown1
import Derived.Test.YtdnmbehkejjmmaaShut
import Derived.Deep.RegionWith
import Derived.Deep.DeepCutAuto
namespace Go.Proofs.Ytdnmbehkejjmmaa
open Go.ChangeShapes Go.WideShapes Go.ChangeAt Go.RowKit

/-- What k bytes of a sum are, and its carry; what k bytes of a difference are, and its borrow. -/
def bW (a b : Int) (c : Bool) (k : Nat) : Int := (a + b + c.toNat) % 2 ^ (8 * k)
def bC (a b : Int) (c : Bool) (k : Nat) : Bool := decide (2 ^ (8 * k) ≤ a % 2 ^ (8 * k) + b % 2 ^ (8 * k) + c.toNat)
def bX (a b : Int) (c : Bool) (k : Nat) : Int := (a - b - c.toNat) % 2 ^ (8 * k)
def bD (a b : Int) (c : Bool) (k : Nat) : Bool := decide (a % 2 ^ (8 * k) < b % 2 ^ (8 * k) + c.toNat)
theorem four {k : Nat} (h : k < 4) : k = 0 ∨ k = 1 ∨ k = 2 ∨ k = 3 := by omega
theorem dec_nat (p : Prop) [Decidable p] : ((decide p).toNat : Int) = if p then 1 else 0 := by
  by_cases h : p <;> simp [h]
theorem cut1 (v : Int) : cut v 1 = v % 256 := rfl
theorem bW_lo (a b : Int) (c : Bool) (k : Nat) : 0 ≤ bW a b c k := Int.emod_nonneg _ (Int.ne_of_gt (Int.pow_pos (by decide)))
theorem bX_lo (a b : Int) (c : Bool) (k : Nat) : 0 ≤ bX a b c k := Int.emod_nonneg _ (Int.ne_of_gt (Int.pow_pos (by decide)))
theorem or_join (k : Nat) (hk : k < 4) (x s : Int) (h0 : 0 ≤ x) (h1 : x < 2 ^ (8 * k)) (k0 : 0 ≤ s) (k1 : s < 256) : bits .or .u32 x (s * 2 ^ (8 * k) % 4294967296) = x + s * 2 ^ (8 * k) := by
  rw [or_comm32]
  have hs : s * 2 ^ (8 * k) % 4294967296 = s * 2 ^ (8 * k) := by
    obtain rfl | rfl | rfl | rfl := four hk <;> simp <;> omega
  rw [hs, Int.add_comm x]
  refine bits_join .u32 32 (by decide) (fun m h0 h1 => by rw [IntKind.wrap_u32]; omega) (8 * k) _ _ ?_ ?_ ?_ h0 h1 ?_
  · obtain rfl | rfl | rfl | rfl := four hk <;> simp <;> omega
  · exact Int.mul_emod_left _ _
  · obtain rfl | rfl | rfl | rfl := four hk <;> simp <;> omega
  · obtain rfl | rfl | rfl | rfl := four hk <;> simp at h1 ⊢ <;> omega
theorem bC_step (a b : Int) (c : Bool) (k : Nat) (hk : k < 4) : addC (a / 2 ^ (8 * k)) (b / 2 ^ (8 * k)) 1 (bC a b c k) = bC a b c (k + 1) := by
  have c0 := toNat_lo c
  have c1 := toNat_hi c
  unfold addC bC
  rw [dec_nat, cut1, cut1, show wid 1 = 8 from rfl]
  generalize (c.toNat : Int) = x at *
  congr 1
  apply propext
  obtain rfl | rfl | rfl | rfl := four hk <;> simp <;> split <;> omega
theorem bD_step (a b : Int) (c : Bool) (k : Nat) (hk : k < 4) : subC (a / 2 ^ (8 * k)) (b / 2 ^ (8 * k)) 1 (bD a b c k) = bD a b c (k + 1) := by
  have c0 := toNat_lo c
  have c1 := toNat_hi c
  unfold subC bD
  rw [dec_nat, cut1, cut1]
  generalize (c.toNat : Int) = x at *
  congr 1
  apply propext
  obtain rfl | rfl | rfl | rfl := four hk <;> simp <;> split <;> omega
theorem bW_step (a b : Int) (c : Bool) (k : Nat) (hk : k < 4) : bits .or .u32 (bW a b c k) (addV (a / 2 ^ (8 * k)) (b / 2 ^ (8 * k)) 1 (bC a b c k) * 2 ^ (8 * k) % 4294967296) = bW a b c (k + 1) := by
  have c0 := toNat_lo c
  have c1 := toNat_hi c
  rw [or_join k hk _ _ (bW_lo _ _ _ _) (Int.emod_lt_of_pos _ (Int.pow_pos (by decide))) (addV_lo _ _ _ _) (by unfold addV; rw [cut1]; omega)]
  unfold addV bW bC
  rw [dec_nat, cut1, cut1, cut1]
  generalize (c.toNat : Int) = x at *
  obtain rfl | rfl | rfl | rfl := four hk <;> simp <;> split <;> omega
theorem bX_step (a b : Int) (c : Bool) (k : Nat) (hk : k < 4) : bits .or .u32 (bX a b c k) (subV (a / 2 ^ (8 * k)) (b / 2 ^ (8 * k)) 1 (bD a b c k) * 2 ^ (8 * k) % 4294967296) = bX a b c (k + 1) := by
  have c0 := toNat_lo c
  have c1 := toNat_hi c
  rw [or_join k hk _ _ (bX_lo _ _ _ _) (Int.emod_lt_of_pos _ (Int.pow_pos (by decide))) (subV_lo _ _ _ _) (by unfold subV; rw [cut1]; omega)]
  unfold subV bX bD
  rw [dec_nat, cut1, cut1, cut1]
  generalize (c.toNat : Int) = x at *
  obtain rfl | rfl | rfl | rfl := four hk <;> simp <;> split <;> omega

theorem bC_zero (a b : Int) (c : Bool) : bC a b c 0 = c := by
  unfold bC; cases c <;> simp [Int.emod_one]
theorem bD_zero (a b : Int) (c : Bool) : bD a b c 0 = c := by
  unfold bD; cases c <;> simp [Int.emod_one]
theorem bW_four (a b : Int) (c : Bool) : bW a b c 4 = addV a b 4 c := by
  unfold bW addV cut
  simp only [show wid 4 = 32 from rfl]
  omega
theorem bX_four (a b : Int) (c : Bool) : bX a b c 4 = subV a b 4 c := by
  unfold bX subV cut
  simp only [show wid 4 = 32 from rfl]
  omega
theorem bC_four (a b : Int) (c : Bool) : bC a b c 4 = addC a b 4 c := rfl
theorem bD_four (a b : Int) (c : Bool) : bD a b c 4 = subC a b 4 c := rfl

theorem byte_add (a b : Int) (c : Bool) (k : Nat) (hk : k < 4) (w : World) : Calls Try.prog 10 #[.int .u32 (a / 2 ^ (8 * k)), .int .u32 (b / 2 ^ (8 * k)), .int .i64 1, .bool (bC a b c k)] w fun e w' =>
   e = .returned (.tuple #[.int .u32 (addV (a / 2 ^ (8 * k)) (b / 2 ^ (8 * k)) 1 (bC a b c k)), .agg #[.bool (bC a b c (k + 1)), .bool (par (addV (a / 2 ^ (8 * k)) (b / 2 ^ (8 * k)) 1 (bC a b c k))), .bool (zer (addV (a / 2 ^ (8 * k)) (b / 2 ^ (8 * k)) 1 (bC a b c k))), .bool (hi (addV (a / 2 ^ (8 * k)) (b / 2 ^ (8 * k)) 1 (bC a b c k)) 1), .bool (addO (a / 2 ^ (8 * k)) (b / 2 ^ (8 * k)) 1 (bC a b c k)), .bool false]]) ∧ Below w.heap.size w w' := by
  rw [← bC_step a b c k hk]
  exact add_any _ _ 1 _ w
theorem byte_sub (a b : Int) (c : Bool) (k : Nat) (hk : k < 4) (w : World) : Calls Try.prog 12 #[.int .u32 (a / 2 ^ (8 * k)), .int .u32 (b / 2 ^ (8 * k)), .int .i64 1, .bool (bD a b c k)] w fun e w' =>
   e = .returned (.tuple #[.int .u32 (subV (a / 2 ^ (8 * k)) (b / 2 ^ (8 * k)) 1 (bD a b c k)), .agg #[.bool (bD a b c (k + 1)), .bool (par (subV (a / 2 ^ (8 * k)) (b / 2 ^ (8 * k)) 1 (bD a b c k))), .bool (zer (subV (a / 2 ^ (8 * k)) (b / 2 ^ (8 * k)) 1 (bD a b c k))), .bool (hi (subV (a / 2 ^ (8 * k)) (b / 2 ^ (8 * k)) 1 (bD a b c k)) 1), .bool (subO (a / 2 ^ (8 * k)) (b / 2 ^ (8 * k)) 1 (bD a b c k)), .bool false]]) ∧ Below w.heap.size w w' := by
  rw [← bD_step a b c k hk]
  exact sub_any _ _ 1 _ w
attribute [local go_sem] isSome_setCell
set_option maxRecDepth 100000 in
set_option maxHeartbeats 4000000 in
theorem bytes_walk (a b : Int) (c : Bool) (w : World) :
    Calls Try.prog 6 #[.int .u32 a, .int .u32 b, .bool c] w fun e w' => e = .returned (.bool true) ∧ Below w.heap.size w w' := by
  go_enter Try.func6, Try.ntmps6
  go_wp2_with (first | (go_at_call 9; refine (known1_any _).mono ?_; rintro e w1 ⟨rfl, hb1⟩) |
    (go_at_call 10; refine (add_any a b 4 c _).mono ?_; rintro e w2 ⟨rfl, hb2⟩))
  have hz2 := hb2.size
  have hB2 : Below w.heap.size w w2 := hb1.trans (hb2.mono hb1.size)
  go_loopw [9, 10, 11, 12, 13] (fun x9 x10 x11 x12 i wr => ∃ k : Nat, k ≤ 4 ∧ i = .int .i64 k ∧ x9 = .int .u32 (bW a b c k) ∧ x10 = .bool (bC a b c k) ∧ x11 = .int .u32 (bX a b c k) ∧ x12 = .bool (bD a b c k) ∧ w2.heap.size < wr.heap.size ∧ wr.cell? ⟨w2.heap.size, 0, none⟩ = some (.bool (addC a b 4 c)) ∧ Below w.heap.size w wr) (fun _ _ _ _ i _ => 4 - (intOf i).toNat)
  case atStart => exact ⟨0, by omega, rfl, by simp [bW, Int.emod_one], by rw [bC_zero], by simp [bX, Int.emod_one], by rw [bD_zero], by simp, by simp, below_last hB2 _⟩
  case round =>
    obtain ⟨k, hk, rfl, rfl, rfl, rfl, rfl, hz, hq, hr⟩ := hrel
    by_cases hlt : k < 4
    · have e1 : IntKind.i64.wrap (8 * (k : Int)) = 8 * (k : Int) := IntWalk.i64_in _ ⟨by omega, by omega⟩
      have e2 : 0 ≤ 8 * (k : Int) := by omega
      have e3 : (8 * (k : Int)).toNat = 8 * k := by omega
      go_upto_region 9 with fail
      go_cut [14, 15] (fun s14 s15 wx => ∃ g : Nat, s14 = .int .u32 (addV (a / 2 ^ (8 * k)) (b / 2 ^ (8 * k)) 1 (bC a b c k)) ∧ s15 = .pointer (some ⟨g, 0, none⟩) ∧ wx.cell? ⟨g, 0, none⟩ = some (.bool (bC a b c (k + 1))) ∧
        wx.cell? ⟨w2.heap.size, 0, none⟩ = some (.bool (addC a b 4 c)) ∧ Below w.heap.size w wx ∧ w2.heap.size < wx.heap.size)
      case first =>
        go_region_with (go_at_call 10; refine (byte_add a b c k hlt _).mono ?_; rintro e w3 ⟨rfl, hb3'⟩; have hb3 := below_undrew hb3'; clear hb3'; obtain ⟨hc3, hf3⟩ := bcell hb3; have hz3 := hb3.size; (try simp [Nat.add_one_le_iff] at hz3))
        · go_wp2_with fail
          go_meet
          have q3 := cell_call hb3 hq
          have r3 : Below w.heap.size w w3 := hr.trans (hb3.mono hr.size)
          exact ⟨w3.heap.size, rfl, rfl, by simp, by rw [World.cell?_alloc_lt _ _ _ (cell_lt q3)]; exact q3, below_last r3 _, by have := cell_lt q3; simp; omega⟩
        · go_wp2_with fail
          go_meet
          have q3 := cell_next hb3 hq
          have r3 : Below w.heap.size w w3 := below_next hr hb3
          have hne : w2.heap.size ≠ wr.heap.size := Nat.ne_of_lt hz
          refine ⟨wr.heap.size, rfl, rfl, by simp [go_sem, hc3], by simp [go_sem, q3], ?_, by simp; omega⟩
          repeat' (first | (with_reducible exact r3) | (with_reducible refine Below.setCell ?_ ?_ _) | (exact hr.size))
      case rest =>
        obtain ⟨g, rfl, rfl, hg, hq2, hr2, hz2⟩ := hcut
        have hgl := cell_lt hg
        go_upto_region 10 with fail
        go_cut [16, 17] (fun s16 s17 wx => ∃ g' : Nat, s16 = .int .u32 (subV (a / 2 ^ (8 * k)) (b / 2 ^ (8 * k)) 1 (bD a b c k)) ∧ s17 = .pointer (some ⟨g', 0, none⟩) ∧ wx.cell? ⟨g', 0, none⟩ = some (.bool (bD a b c (k + 1))) ∧
          wx.cell? ⟨g, 0, none⟩ = some (.bool (bC a b c (k + 1))) ∧ wx.cell? ⟨w2.heap.size, 0, none⟩ = some (.bool (addC a b 4 c)) ∧ Below w.heap.size w wx ∧ w2.heap.size < wx.heap.size)
        case first =>
          go_region_with (go_at_call 12; refine (byte_sub a b c k hlt _).mono ?_; rintro e w3 ⟨rfl, hb3'⟩; have hb3 := below_undrew hb3'; clear hb3'; obtain ⟨hc3, hf3⟩ := bcell hb3; have hz3 := hb3.size; (try simp [Nat.add_one_le_iff] at hz3))
          · go_wp2_with fail
            go_meet
            have q3 := cell_call hb3 hq2
            have p3 := cell_call hb3 hg
            have r3 : Below w.heap.size w w3 := hr2.trans (hb3.mono hr2.size)
            exact ⟨w3.heap.size, rfl, rfl, by simp, by rw [World.cell?_alloc_lt _ _ _ (cell_lt p3)]; exact p3, by rw [World.cell?_alloc_lt _ _ _ (cell_lt q3)]; exact q3, below_last r3 _, by have := cell_lt q3; simp; omega⟩
          · go_wp2_with fail
            go_meet
            have q3 := cell_next hb3 hq2
            have p3 := cell_next hb3 hg
            have r3 : Below w.heap.size w w3 := below_next hr2 hb3
            have hne : w2.heap.size ≠ wc.heap.size := Nat.ne_of_lt hz2
            have hng : g ≠ wc.heap.size := Nat.ne_of_lt hgl
            refine ⟨wc.heap.size, rfl, rfl, by simp [go_sem, hc3], by simp [go_sem, p3], by simp [go_sem, q3], ?_, by simp; omega⟩
            repeat' (first | (with_reducible exact r3) | (with_reducible refine Below.setCell ?_ ?_ _) | (exact hr2.size))
        case rest =>
          obtain ⟨g', rfl, rfl, hg', hg2, hq4, hr4, hz4⟩ := hcut
          go_wp2_with fail
          go_region
          all_goals go_wp2_with fail
          go_region
          all_goals go_wp2_with fail
          go_roundw
          case rel => exact ⟨k + 1, by omega, by go_num, by rw [bW_step a b c k hlt], rfl, by rw [bX_step a b c k hlt], rfl, hz4, hq4, hr4.drew.drew⟩
          case measure => simp [intOf]; omega
    · obtain rfl : k = 4 := by omega
      have f1 : (bW a b c 4 == addV a b 4 c) = true := by rw [bW_four]; simp
      have f2 : (bC a b c 4 == addC a b 4 c) = true := by rw [bC_four]; simp
      have f3 : (bX a b c 4 == subV a b 4 c) = true := by rw [bX_four]; simp
      have f4 : (bD a b c 4 == subC a b 4 c) = true := by rw [bD_four]; simp
      go_wp2_with fail
      refine (sub_any a b 4 c _).mono ?_
      rintro e w3 ⟨rfl, hb3⟩
      have q3 := cell_call hb3 hq
      have hz3 : w2.heap.size < w3.heap.size := cell_lt q3
      go_wp2
      go_ret
      exact ⟨by simp, below_last (hr.trans (hb3.mono hr.size)) _⟩

theorem arithBytes_own : ownKnob Try.prog.godebug = none := by kernel_rfl
set_option maxRecDepth 100000 in
theorem arithBytes_lifted (os : Os) (started : os.Started) (H : Type) (enc : TypeId × Value → H) :
    ReturnsInHanded {} Try.checked os 6 .any (Rows.arithBytesSpec.pre6 enc Try.prog Try.f6 Rows.arithBytesRow.domain false) (Rows.arithBytesSpec.post enc Try.prog Try.f6 false true false false) := by
  refine returnsInHanded_of_change (C := Try.checked) arithBytes_own started (by kernel_rfl) Try.func6
    (ChangeSpec.witness6 (enc := enc) (C := Try.checked) false ⟨#[], #[.int .u32 0, .int .u32 0, .bool false], []⟩ 8 (by kernel_rfl) (by kernel_rfl) (by kernel_rfl) (by kernel_rfl)) ?_
  intro W base args ds gs before hval0 hW hcnd _
  have hval : ∀ (j : Nat) t v, Try.f6.params[j]? = some t → args[j]? = some v → Value.okWide Try.prog W .any base t v := hval0
  have hW' := hW
  obtain ⟨p, q, hA0, hV, rfl, hfz, hnd⟩ := hW
  have hA : DataW.TrodAll enc Try.prog W 0 (fun _ => true) true Try.f6.params.toList args.toList ds p := hA0
  rw [Try.params6] at hA hval
  obtain ⟨v0, vs0, d0, ds0, p0, q0, hargs, rfl, rfl, h0, r0⟩ := trodAll_cons hA
  obtain ⟨v1, vs1, d1, ds1, p1, q1, rfl, rfl, rfl, h1, r1⟩ := trodAll_cons r0
  obtain ⟨v2, vs2, d2, ds2, p2, q2, rfl, rfl, rfl, h2, r2⟩ := trodAll_cons r1
  obtain ⟨rfl, rfl, rfl⟩ := trodAll_nil r2
  obtain rfl : args = #[v0, v1, v2] := by cases args; simp_all
  obtain ⟨rfl, rfl⟩ := trodVars_none hV
  obtain ⟨a0, rfl, rfl, rfl, w0⟩ := open_int Try.underlying22 (hval 0 22 v0 rfl rfl) h0
  obtain ⟨a1, rfl, rfl, rfl, w1⟩ := open_int Try.underlying22 (hval 1 22 v1 rfl rfl) h1
  obtain ⟨a2, rfl, rfl, rfl⟩ := open_bool Try.underlying4 (hval 2 4 v2 rfl rfl) h2
  clear hA0 hval0
  simp only [List.append_nil] at hW'
  refine (bytes_walk a0 a1 a2 W ).mono fun e W' ⟨he, hg⟩ => ?_
  subst he
  exact ⟨_, rfl, post_plain hW' hg (fun sp => (trodAll_cons_mk (shut_int Try.underlying22 w0) (trodAll_cons_mk (shut_int Try.underlying22 w1) (trodAll_cons_mk (shut_bool Try.underlying4 _) trodAll_mk0)))) (fun _ => rfl)
    (fun _ _ _ => (trodAll_cons_mk (shut_bool Try.underlying4 _) trodAll_mk0)) (ok_one (by kernel_rfl) rfl (okWide_bool_mk Try.underlying4 _))⟩

theorem arithBytes_holds : Rows.ArithBytesSaid :=
  OpenClaim.holds_of_wide 6 Try.f6 rfl rfl rfl rfl rfl rfl rfl ⟨rfl, rfl, rfl, rfl, rfl⟩ rfl rfl rfl rfl rfl (by kernel_rfl) Try.func6 (by kernel_rfl)
    (of_decide_eq_true (by kernel_rfl)) (by unfold Func.isWrapper; first | (rw [if_pos (by decide +kernel)]; kernel_rfl) | (rw [if_neg (by decide +kernel)]; exact ⟨rfl, rfl⟩))
    (fun os started H enc _ => arithBytes_lifted os started H enc)
#print axioms arithBytes_holds
end Go.Proofs.Ytdnmbehkejjmmaa
