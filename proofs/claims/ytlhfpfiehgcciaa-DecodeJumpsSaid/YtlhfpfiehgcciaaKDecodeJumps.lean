/- How far each jump goes, short or long. -/
import Derived.Test.YtlhfpfiehgcciaaKX
namespace Go.Proofs.Ytlhfpfiehgcciaa
open Go.ChangeShapes Go.WideShapes Go.ChangeAt Go.RowKit

attribute [local go_sem] opd_guard1
noncomputable def jumps9_ops : Array Oper := (Try.f8.body.bind (regionOf 9)).getD #[]
theorem jumps9_0 : lexTo .any jumps9_ops 16 0 (lset 96 0) = some (lset 96 16) := by kernel_rfl
theorem jumps9_1 : lexTo .any jumps9_ops 16 16 (lset 96 16) = some (lset 96 32) := by kernel_rfl
theorem jumps9_2 : lexTo .any jumps9_ops 16 32 (lset 96 32) = some (lset 96 48) := by kernel_rfl
theorem jumps9_3 : lexTo .any jumps9_ops 16 48 (lset 96 48) = some (lset 96 64) := by kernel_rfl
theorem jumps9_4 : lexTo .any jumps9_ops 16 64 (lset 96 64) = some (lset 96 80) := by kernel_rfl
theorem jumps9_5 : lexTo .any jumps9_ops 16 80 (lset 96 80) = some (lset 96 96) := by kernel_rfl
theorem jumps9_end : Region.lexFrom .any jumps9_ops 0 96 (lset 96 96) = true := by kernel_rfl
theorem jumps9 : Region.lexB .any jumps9_ops = true :=
  lexB_of 96 (by kernel_rfl) (by kernel_rfl) (by
    rw [show Array.replicate 96 false = lset 96 0 by kernel_rfl]
    exact lexFrom_add (m := 80) jumps9_0 (lexFrom_add (m := 64) jumps9_1 (lexFrom_add (m := 48) jumps9_2 (lexFrom_add (m := 32) jumps9_3 (lexFrom_add (m := 16) jumps9_4 (lexFrom_add (m := 0) jumps9_5 (jumps9_end)))))))
set_option maxRecDepth 100000 in
set_option maxHeartbeats 4000000 in
theorem decjumps_walk (c v d : Int) (w : World) (c0 : 0 ≤ c) (c1 : c < 256) (v0 : 0 ≤ v) (v1 : v < 256) (d0 : 0 ≤ d) (d1 : d < 4294967296) :
    Calls Try.prog 8 #[.int .u8 c, .int .u8 v, .int .u32 d] w fun e w' => e = .returned (.bool true) ∧ Below w.heap.size w w' := by
  have n1 : bits .and .u8 c 15 = c % 16 := and15 _ c0 c1
  obtain ⟨q, hq⟩ : ∃ q, q = c % 16 := ⟨_, rfl⟩
  have q0 : 0 ≤ q := by omega
  have q1 : q < 16 := by omega
  rw [← hq] at n1
  clear hq
  have n2 : bits .or .u8 112 q = 112 + q := by
    have := or_add8 4 q 7 q0 (by show _ < (16 : Int); omega) (by omega) (by show _ + 7 * 16 < (256 : Int); omega)
    rw [show (7 : Int) * ((2 ^ 4 : Nat) : Int) = 112 from rfl] at this
    rw [this]; omega
  have n3 : bits .or .u8 128 q = 128 + q := by
    have := or_add8 4 q 8 q0 (by show _ < (16 : Int); omega) (by omega) (by show _ + 8 * 16 < (256 : Int); omega)
    rw [show (8 : Int) * ((2 ^ 4 : Nat) : Int) = 128 from rfl] at this
    rw [this]; omega
  have hI := Lib.hid (jump_short q v q0 q1)
  have hJ := Lib.hid (jump_long q (d % 256) (d / 256 % 256) (d / 65536 % 256) (d / 16777216) q0 q1)
  have hK := Lib.hid (call_long (d % 256) (d / 256 % 256) (d / 65536 % 256) (d / 16777216))
  have hM := Lib.hid (jmp_short v)
  rw [four_all] at hJ hK
  have hsx := sx_conv v
  rw [show v % 256 = v by omega] at hsx
  generalize sx9 v = s at *
  have L1 := Lib.hid (lst_ok (l := [112 + q, v]) (by simp; omega))
  have L2 := Lib.hid (lst_ok (l := [15, 128 + q] ++ [d % 256, d / 256 % 256, d / 65536 % 256, d / 16777216]) (by simp; omega))
  have L3 := Lib.hid (lst_ok (l := [232] ++ [d % 256, d / 256 % 256, d / 65536 % 256, d / 16777216]) (by simp; omega))
  have L4 := Lib.hid (lst_ok (l := [235, v]) (by simp; omega))
  go_enter Try.func8, Try.ntmps8
  go_wp2_with fail
  refine (known10_any _).mono ?_
  rintro e w0 ⟨rfl, B0⟩
  have HA := Lib.hid ((Lies.none B0).lit #[.int .u8 (d % 256), .int .u8 (d / 256 % 256), .int .u8 (d / 65536 % 256), .int .u8 (d / 16777216)] 5 _ rfl)
  clear B0
  obtain ⟨I, hIe⟩ : ∃ I : Ins, I = ⟨31, q, 0, numO s, noneO, 0, false, 2⟩ := ⟨_, rfl⟩
  obtain ⟨J, hJe⟩ : ∃ I : Ins, I = ⟨31, q, 0, numO d, noneO, 0, false, 6⟩ := ⟨_, rfl⟩
  obtain ⟨K, hKe⟩ : ∃ I : Ins, I = ⟨33, 0, 0, numO d, noneO, 0, false, 5⟩ := ⟨_, rfl⟩
  obtain ⟨M, hMe⟩ : ∃ I : Ins, I = ⟨32, 0, 0, numO s, noneO, 0, false, 2⟩ := ⟨_, rfl⟩
  rw [← hIe] at hI
  rw [← hJe] at hJ
  rw [← hKe] at hK
  rw [← hMe] at hM
  have HIe := Lib.hid hIe
  have HJe := Lib.hid hJe
  have HKe := Lib.hid hKe
  have HMe := Lib.hid hMe
  clear hIe hJe hKe hMe
  go_wp2_with fail
  refine (done_any _ 2 _ L1.out (by decide) _ (slc_at _ _ (by simp) _ _ 2 2 _ (Nat.le_refl _) (fun i hi => ?_))).mono ?_
  · match i, hi with
    | 0, _ => rfl
    | 1, _ => rfl
  rintro e w1 ⟨rfl, B1⟩
  rw [hI.out]
  unfold insR
  have HL := Lib.hid ((HA.out.alloc _).on B1)
  clear B1 HA
  have HT := Lib.hid (there_alloc_new w1 zeroA 33 18 (by decide))
  go_wp2_with (first
    | (refine store_ins rfl (.tmp 8) (.tmp 38) rfl w1.heap.size rfl I rfl HT.out ?_; intro Y1 hY hl; have HP := Lib.hid (HL.out.put zeroA 33 (insL I) (Nat.le_refl 18) _ rfl Y1 hY); clear hY hl)
    | (at_builtin; go_loud (refine append_bytes rfl (.tmp 44) (.tmp 45) rfl (.slice (some ⟨Y1.heap.size, 0, none⟩) 2 2) (.slice (some ⟨w0.heap.size, 0, none⟩) 4 4) [15, 128 + q] [d % 256, d / 256 % 256, d / 65536 % 256, d / 16777216] rfl rfl _ rfl (slc_new Y1 _ _ 2 2 _ (Nat.le_refl _) (by intro i hi; match i, hi with | 0, _ => rfl | 1, _ => rfl)) (slc_range [d % 256, d / 256 % 256, d / 65536 % 256, d / 16777216] 4 (Nat.le_refl _) ((HP.out.alloc _).at_ _ _ (by simp)) 4 (Nat.le_refl _)) (by simp) (by simp) ?_); intro v' w2 hs2 hb2; have HS := Lib.hid hs2; have HQ := Lib.hid ((HP.out.alloc _).on hb2); clear hs2 hb2))
  refine (done_any v' 6 _ L2.out (by decide) _ HS.out).mono ?_
  rintro e w3 ⟨rfl, B3⟩
  rw [show lst ([15, 128 + q] ++ [d % 256, d / 256 % 256, d / 65536 % 256, d / 16777216]) = lst [15, 128 + q, d % 256, d / 256 % 256, d / 65536 % 256, d / 16777216] from rfl, hJ.out]
  unfold insR
  have HR := Lib.hid (HQ.out.on B3)
  clear B3 HL HP HQ HS HT
  have HT := Lib.hid (there_alloc_new w3 zeroA 33 18 (by decide))
  go_wp2_with (first
    | (refine store_ins rfl (.tmp 10) (.tmp 48) rfl w3.heap.size rfl J rfl HT.out ?_; intro Y2 hY hl; have HP := Lib.hid (HR.out.put zeroA 33 (insL J) (Nat.le_refl 18) _ rfl Y2 hY); clear hY hl)
    | (at_builtin; go_loud (refine append_bytes rfl (.tmp 51) (.tmp 52) rfl (.slice (some ⟨Y2.heap.size, 0, none⟩) 1 1) (.slice (some ⟨w0.heap.size, 0, none⟩) 4 4) [232] [d % 256, d / 256 % 256, d / 65536 % 256, d / 16777216] rfl rfl _ rfl (slc_new Y2 _ _ 1 1 _ (Nat.le_refl _) (by intro i hi; match i, hi with | 0, _ => rfl)) (slc_range [d % 256, d / 256 % 256, d / 65536 % 256, d / 16777216] 4 (Nat.le_refl _) ((HP.out.alloc _).at_ _ _ (by simp)) 4 (Nat.le_refl _)) (by simp) (by simp) ?_); intro v' w4 hs2 hb2; have HS := Lib.hid hs2; have HQ := Lib.hid ((HP.out.alloc _).on hb2); clear hs2 hb2))
  refine (done_any v' 5 _ L3.out (by decide) _ HS.out).mono ?_
  rintro e w5 ⟨rfl, B5⟩
  rw [show lst ([232] ++ [d % 256, d / 256 % 256, d / 65536 % 256, d / 16777216]) = lst [232, d % 256, d / 256 % 256, d / 65536 % 256, d / 16777216] from rfl, hK.out]
  unfold insR
  have HL := Lib.hid (HQ.out.on B5)
  clear B5 HP HQ HR HS HT
  have HT := Lib.hid (there_alloc_new w5 zeroA 33 18 (by decide))
  go_wp2_with (refine store_ins rfl (.tmp 12) (.tmp 55) rfl w5.heap.size rfl K rfl HT.out ?_; intro Y3 hY hl; have HP := Lib.hid (HL.out.put zeroA 33 (insL K) (Nat.le_refl 18) _ rfl Y3 hY); clear hY hl)
  refine (done_any _ 2 _ L4.out (by decide) _ (slc_new Y3 _ _ 2 2 _ (Nat.le_refl _) (fun i hi => ?_))).mono ?_
  · match i, hi with
    | 0, _ => rfl
    | 1, _ => rfl
  rintro e w6 ⟨rfl, B6⟩
  rw [hM.out]
  unfold insR
  have HR := Lib.hid ((HP.out.alloc _).on B6)
  clear B6 HL HP HT
  have HT := Lib.hid (there_alloc_new w6 zeroA 33 18 (by decide))
  go_wp2_with (first
    | (refine store_ins rfl (.tmp 14) (.tmp 61) rfl w6.heap.size rfl M rfl HT.out ?_; intro Y4 hY hl; have HP := Lib.hid (HR.out.put zeroA 33 (insL M) (Nat.le_refl 18) _ rfl Y4 hY); clear hY hl))
  refine (rnumber_any s _).mono ?_
  rintro e w7 ⟨rfl, B7⟩
  have HL := Lib.hid (HP.out.on B7)
  clear B7 HR HP HT
  have HT := Lib.hid (there_alloc_new w7 #[.int .i64 0, .int .i64 0, .int .i64 0, .int .i64 0, .int .i64 0, .int .u32 0] 31 6 (by decide))
  go_wp2_with (first
    | (refine store_opd rfl (.tmp 16) (.tmp 67) rfl w7.heap.size rfl (numO s) rfl HT.out ?_; intro Y5 hY hl; have HP := Lib.hid (HL.out.put #[.int .i64 0, .int .i64 0, .int .i64 0, .int .i64 0, .int .i64 0, .int .u32 0] 31 (opL' (numO s)) (Nat.le_refl 6) _ rfl Y5 hY); clear hY hl))
  have HP := Lib.hid (show Lies w [(w7.heap.size, opL' (numO s)), (w6.heap.size, insL M), (w5.heap.size, insL K), (w3.heap.size, insL J), (w1.heap.size, insL I)] Y5 from ⟨HP.out.below, fun p hp => HP.out.all p (by simp only [List.mem_cons, List.not_mem_nil, or_false] at hp ⊢; rcases hp with h | h | h | h | h <;> simp [h])⟩)
  obtain ⟨C, hC⟩ : ∃ C : World → Prop, C = Lies w [(w7.heap.size, opL' (numO s)), (w6.heap.size, insL M), (w5.heap.size, insL K), (w3.heap.size, insL J), (w1.heap.size, insL I)] := ⟨_, rfl⟩
  have HCi := Lib.hid (show ∀ u, C u → (u.cell? ⟨w1.heap.size, 0, none⟩ = some (.int .i64 31) ∧ u.cell? ⟨w1.heap.size, 1, none⟩ = some (.int .i64 q) ∧ u.cell? ⟨w1.heap.size, 2, none⟩ = some (.int .i64 0) ∧ u.cell? ⟨w1.heap.size, 17, none⟩ = some (.int .i64 2)) ∧ u.rangeAt w1.heap.size 3 (opL' (numO s)) from fun u hu => by
    rw [hC] at hu
    have h1 := hu.at_ w1.heap.size (insL I) (by simp)
    have h2 := ins_all h1
    have h3 := insL_a h1
    rw [HIe.out] at h2 h3
    exact ⟨⟨h2.1.1, h2.1.2.1, h2.1.2.2.1, h2.1.2.2.2.2⟩, h3⟩)
  have HCj := Lib.hid (show ∀ u, C u → (u.cell? ⟨w3.heap.size, 0, none⟩ = some (.int .i64 31) ∧ u.cell? ⟨w3.heap.size, 1, none⟩ = some (.int .i64 q) ∧ u.cell? ⟨w3.heap.size, 2, none⟩ = some (.int .i64 0) ∧ u.cell? ⟨w3.heap.size, 17, none⟩ = some (.int .i64 6)) ∧ u.rangeAt w3.heap.size 3 (opL' (numO d)) from fun u hu => by
    rw [hC] at hu
    have h1 := hu.at_ w3.heap.size (insL J) (by simp)
    have h2 := ins_all h1
    have h3 := insL_a h1
    rw [HJe.out] at h2 h3
    exact ⟨⟨h2.1.1, h2.1.2.1, h2.1.2.2.1, h2.1.2.2.2.2⟩, h3⟩)
  have HCk := Lib.hid (show ∀ u, C u → (u.cell? ⟨w5.heap.size, 0, none⟩ = some (.int .i64 33) ∧ u.cell? ⟨w5.heap.size, 1, none⟩ = some (.int .i64 0) ∧ u.cell? ⟨w5.heap.size, 2, none⟩ = some (.int .i64 0) ∧ u.cell? ⟨w5.heap.size, 17, none⟩ = some (.int .i64 5)) ∧ u.rangeAt w5.heap.size 3 (opL' (numO d)) from fun u hu => by
    rw [hC] at hu
    have h1 := hu.at_ w5.heap.size (insL K) (by simp)
    have h2 := ins_all h1
    have h3 := insL_a h1
    rw [HKe.out] at h2 h3
    exact ⟨⟨h2.1.1, h2.1.2.1, h2.1.2.2.1, h2.1.2.2.2.2⟩, h3⟩)
  have HCm := Lib.hid (show ∀ u, C u → (u.cell? ⟨w6.heap.size, 0, none⟩ = some (.int .i64 32) ∧ u.cell? ⟨w6.heap.size, 1, none⟩ = some (.int .i64 0) ∧ u.cell? ⟨w6.heap.size, 2, none⟩ = some (.int .i64 0) ∧ u.cell? ⟨w6.heap.size, 17, none⟩ = some (.int .i64 2)) ∧ u.rangeAt w6.heap.size 3 (opL' (numO s)) from fun u hu => by
    rw [hC] at hu
    have h1 := hu.at_ w6.heap.size (insL M) (by simp)
    have h2 := ins_all h1
    have h3 := insL_a h1
    rw [HMe.out] at h2 h3
    exact ⟨⟨h2.1.1, h2.1.2.1, h2.1.2.2.1, h2.1.2.2.2.2⟩, h3⟩)
  have HCd := Lib.hid (show ∀ u, C u → u.rangeAt w7.heap.size 0 (opL' (numO s)) from fun u hu => by rw [hC] at hu; exact hu.at_ _ _ (by simp))
  have HCo := Lib.hid (show ∀ u u', C u → Below u.heap.size u u' → C u' from fun u u' hu hb => by rw [hC] at hu ⊢; exact hu.on hb)
  have HCb := Lib.hid (show ∀ u, C u → Below w.heap.size w u from fun u hu => by rw [hC] at hu; exact hu.below)
  have hC0 : C { Y5 with drawn := Y5.drawn + 1 } := by rw [hC]; exact HP.out.drew
  have hne := class_const hC0
  clear hC
  rw [show ∀ (a : Act), a.put none undef = a from fun _ => rfl]
  dsimp only [List.append]
  refine wp_region_quietC C (by kernel_rfl) (Eq.trans (congrArg (Region.lexB .any) (show _ = jumps9_ops by kernel_rfl)) jumps9) hC0 ?_
  clear hC0
  go_big_quiet_want; go_big_quiet_op; go_big_quiet_on
  go_big_quiet_want; go_big_quiet_op; go_big_quiet_on
  go_big_quiet_want; go_big_quiet_op; go_big_quiet_on
  go_big_quiet_want; go_big_quiet_op; go_big_quiet_on
  go_big_quiet_want; go_big_quiet_op; go_big_quiet_on
  go_big_quiet_want; go_big_quiet_op; go_big_quiet_on
  go_big_quiet_want; go_big_quiet_op; go_big_quiet_on
  go_big_quiet_want; go_big_quiet_op; go_big_quiet_on
  go_big_quiet_want; go_big_quiet_op; go_big_quiet_on
  go_big_quiet_want; go_big_quiet_op; go_big_quiet_on
  go_big_quiet_want; go_big_quiet_op; go_big_quiet_on
  go_big_quiet_want; go_big_quiet_op; go_big_quiet_on
  go_big_quiet_want; go_big_quiet_op; go_big_quiet_on
  go_big_quiet_want; go_big_quiet_op; go_big_quiet_on
  go_big_quiet_want; go_big_quiet_op; go_big_quiet_on
  go_big_quiet_want; go_big_quiet_op; go_big_quiet_on
  go_big_quiet_want; refine quietC_read 3 (.tmp 83) (.int .i64 31) (fun u hu => by have := (HCi.out u hu).1.1; simp [Act.eval, go_sem, this]) ?_; go_big_quiet_op; go_big_quiet_on
  go_big_quiet_want; go_big_quiet_op; go_big_quiet_on
  go_big_quiet_want; go_big_quiet_op; go_big_quiet_on
  go_big_quiet_want; go_big_quiet_op; go_big_quiet_on
  go_big_quiet_want; go_big_quiet_op; go_big_quiet_on
  go_big_quiet_want; refine quietC_read 3 (.tmp 88) (.int .i64 31) (fun u hu => by have := (HCj.out u hu).1.1; simp [Act.eval, go_sem, this]) ?_; go_big_quiet_op; go_big_quiet_on
  go_big_quiet_want; go_big_quiet_op; go_big_quiet_on
  go_big_quiet_want; go_big_quiet_op; go_big_quiet_on
  go_big_quiet_want; go_big_quiet_op; go_big_quiet_on
  go_big_quiet_want; go_big_quiet_op; go_big_quiet_on
  go_big_quiet_want; refine quietC_read 3 (.tmp 93) (.int .i64 33) (fun u hu => by have := (HCk.out u hu).1.1; simp [Act.eval, go_sem, this]) ?_; go_big_quiet_op; go_big_quiet_on
  go_big_quiet_want; go_big_quiet_op; go_big_quiet_on
  go_big_quiet_want; go_big_quiet_op; go_big_quiet_on
  go_big_quiet_want; go_big_quiet_op; go_big_quiet_on
  go_big_quiet_want; go_big_quiet_op; go_big_quiet_on
  go_big_quiet_want; refine quietC_read 3 (.tmp 98) (.int .i64 32) (fun u hu => by have := (HCm.out u hu).1.1; simp [Act.eval, go_sem, this]) ?_; go_big_quiet_op; go_big_quiet_on
  go_big_quiet_want; go_big_quiet_op; go_big_quiet_on
  go_big_quiet_want; go_big_quiet_op; go_big_quiet_on
  go_big_quiet_want; go_big_quiet_op; go_big_quiet_on
  go_big_quiet_want; go_big_quiet_op; go_big_quiet_on
  go_big_quiet_want; refine quietC_read 3 (.tmp 103) (.int .i64 q) (fun u hu => by have := (HCi.out u hu).1.2.1; simp [Act.eval, go_sem, this]) ?_; go_big_quiet_op; go_big_quiet_on
  go_big_quiet_want; go_big_quiet_op; go_big_quiet_on
  go_big_quiet_want; go_big_quiet_op; go_big_quiet_on
  go_big_quiet_want; go_big_quiet_op; go_big_quiet_on
  go_big_quiet_want; go_big_quiet_op; go_big_quiet_on
  go_big_quiet_want; go_big_quiet_op; go_big_quiet_on
  go_big_quiet_want; go_big_quiet_op; go_big_quiet_on
  go_big_quiet_want; go_big_quiet_op; go_big_quiet_on
  go_big_quiet_want; refine quietC_read 3 (.tmp 111) (.int .i64 q) (fun u hu => by have := (HCj.out u hu).1.2.1; simp [Act.eval, go_sem, this]) ?_; go_big_quiet_op; go_big_quiet_on
  go_big_quiet_want; go_big_quiet_op; go_big_quiet_on
  go_big_quiet_want; refine quietC_read 3 (.tmp 113) (.int .i64 q) (fun u hu => by have := (HCi.out u hu).1.2.1; simp [Act.eval, go_sem, this]) ?_; go_big_quiet_op; go_big_quiet_on
  go_big_quiet_want; go_big_quiet_op; go_big_quiet_on
  go_big_quiet_want; go_big_quiet_op; go_big_quiet_on
  go_big_quiet_want; go_big_quiet_op; go_big_quiet_on
  go_big_quiet_want; go_big_quiet_op; go_big_quiet_on
  go_big_quiet_want; refine quietC_load 31 (.tmp 118) w1.heap.size 3 rfl (opL' (numO s)) _ (fun u hu => (HCi.out u hu).2) Try.underlying31 rfl info_opd1 ?_; go_big_quiet_op; go_big_quiet_on
  go_big_quiet_want; refine quietC_load 31 (.tmp 16) w7.heap.size 0 rfl (opL' (numO s)) _ HCd.out Try.underlying31 rfl info_opd1 ?_; go_big_quiet_op; go_big_quiet_on
  go_big_quiet_want; refine quietC_eql_opd (.tmp 119) (.tmp 120) (numO s) rfl rfl ?_; go_big_quiet_op; go_big_quiet_on
  go_big_quiet_want; go_big_quiet_op; go_big_quiet_on
  go_big_quiet_want; go_big_quiet_op; go_big_quiet_on
  go_big_quiet_want; go_big_quiet_op; go_big_quiet_on
  go_big_quiet_want; refine quietC_load 31 (.tmp 124) w6.heap.size 3 rfl (opL' (numO s)) _ (fun u hu => (HCm.out u hu).2) Try.underlying31 rfl info_opd1 ?_; go_big_quiet_op; go_big_quiet_on
  go_big_quiet_want; refine quietC_load 31 (.tmp 16) w7.heap.size 0 rfl (opL' (numO s)) _ HCd.out Try.underlying31 rfl info_opd1 ?_; go_big_quiet_op; go_big_quiet_on
  go_big_quiet_want; refine quietC_eql_opd (.tmp 125) (.tmp 126) (numO s) rfl rfl ?_; go_big_quiet_op; go_big_quiet_on
  go_big_quiet_want; go_big_quiet_op; go_big_quiet_on
  go_big_quiet_want; go_big_quiet_op; go_big_quiet_on
  go_big_quiet_want; go_big_quiet_op; go_big_quiet_on
  go_big_quiet_want; refine quietC_load 31 (.tmp 130) w3.heap.size 3 rfl (opL' (numO d)) _ (fun u hu => (HCj.out u hu).2) Try.underlying31 rfl info_opd1 ?_; go_big_quiet_op; go_big_quiet_on
  go_big_quiet_want; go_big_quiet_op; go_big_quiet_on
  go_big_quiet_want; refine quietC_call 19 #[.tmp 132] _ #[.int .u32 d] (opV (numO d)) (fun u _ => by simp [Act.eval, go_sem]) (fun u hu => (rnumber_any d u).mono fun _ _ ⟨h1, h2⟩ => ⟨h1, HCo.out u _ hu h2⟩) ?_; go_big_quiet_op; go_big_quiet_on
  go_big_quiet_want; refine quietC_eql_opd (.tmp 131) (.tmp 133) (numO d) rfl rfl ?_; go_big_quiet_op; go_big_quiet_on
  go_big_quiet_want; go_big_quiet_op; go_big_quiet_on
  go_big_quiet_want; go_big_quiet_op; go_big_quiet_on
  go_big_quiet_want; go_big_quiet_op; go_big_quiet_on
  go_big_quiet_want; refine quietC_load 31 (.tmp 137) w5.heap.size 3 rfl (opL' (numO d)) _ (fun u hu => (HCk.out u hu).2) Try.underlying31 rfl info_opd1 ?_; go_big_quiet_op; go_big_quiet_on
  go_big_quiet_want; go_big_quiet_op; go_big_quiet_on
  go_big_quiet_want; refine quietC_load 31 (.tmp 139) w3.heap.size 3 rfl (opL' (numO d)) _ (fun u hu => (HCj.out u hu).2) Try.underlying31 rfl info_opd1 ?_; go_big_quiet_op; go_big_quiet_on
  go_big_quiet_want; refine quietC_eql_opd (.tmp 138) (.tmp 140) (numO d) rfl rfl ?_; go_big_quiet_op; go_big_quiet_on
  go_big_quiet_want; go_big_quiet_op; go_big_quiet_on
  go_big_quiet_want; go_big_quiet_op; go_big_quiet_on
  go_big_quiet_want; go_big_quiet_op; go_big_quiet_on
  go_big_quiet_want; refine quietC_read 3 (.tmp 144) (.int .i64 2) (fun u hu => by have := (HCi.out u hu).1.2.2.2; simp [Act.eval, go_sem, this]) ?_; go_big_quiet_op; go_big_quiet_on
  go_big_quiet_want; go_big_quiet_op; go_big_quiet_on
  go_big_quiet_want; go_big_quiet_op; go_big_quiet_on
  go_big_quiet_want; go_big_quiet_op; go_big_quiet_on
  go_big_quiet_want; go_big_quiet_op; go_big_quiet_on
  go_big_quiet_want; refine quietC_read 3 (.tmp 149) (.int .i64 6) (fun u hu => by have := (HCj.out u hu).1.2.2.2; simp [Act.eval, go_sem, this]) ?_; go_big_quiet_op; go_big_quiet_on
  go_big_quiet_want; go_big_quiet_op; go_big_quiet_on
  go_big_quiet_want; go_big_quiet_op; go_big_quiet_on
  go_big_quiet_want; go_big_quiet_op; go_big_quiet_on
  go_big_quiet_want; go_big_quiet_op; go_big_quiet_on
  go_big_quiet_want; refine quietC_read 3 (.tmp 154) (.int .i64 5) (fun u hu => by have := (HCk.out u hu).1.2.2.2; simp [Act.eval, go_sem, this]) ?_; go_big_quiet_op; go_big_quiet_on
  go_big_quiet_want; go_big_quiet_op; go_big_quiet_on
  go_big_quiet_want; go_big_quiet_op; go_big_quiet_on
  go_big_quiet_want; go_big_quiet_op; go_big_quiet_on
  go_big_quiet_want; go_big_quiet_op; go_big_quiet_on
  go_big_quiet_want; refine quietC_read 3 (.tmp 159) (.int .i64 0) (fun u hu => by have := (HCi.out u hu).1.2.2.1; simp [Act.eval, go_sem, this]) ?_; go_big_quiet_op; go_big_quiet_on
  go_big_quiet_want; go_big_quiet_op; go_big_quiet_on
  go_big_quiet_want; go_big_quiet_op; go_big_quiet_on
  go_big_quiet_want; go_big_quiet_op; go_big_quiet_on
  refine wpQuiet_nil ?_
  intro W hW
  go_wp2_with fail
  go_ret
  exact ⟨rfl, HCb.out W hW⟩

theorem decodeJumps_own : ownKnob Try.prog.godebug = none := by kernel_rfl
set_option maxRecDepth 100000 in
theorem decodeJumps_lifted (os : Os) (started : os.Started) (H : Type) (enc : TypeId × Value → H) :
    ReturnsInHanded {} Try.checked os 8 .any (Rows.decodeJumpsSpec.pre6 enc Try.prog Try.f8 Rows.decodeJumpsRow.domain false) (Rows.decodeJumpsSpec.post enc Try.prog Try.f8 false true false false) := by
  refine returnsInHanded_of_change (C := Try.checked) decodeJumps_own started (by kernel_rfl) Try.func8
    (ChangeSpec.witness6 (enc := enc) (C := Try.checked) false ⟨#[], #[.int .u8 0, .int .u8 0, .int .u32 0], []⟩ 8 (by kernel_rfl) (by kernel_rfl) (by kernel_rfl) (by kernel_rfl)) ?_
  intro W base args ds gs before hval0 hW hcnd _
  have hval : ∀ (j : Nat) t v, Try.f8.params[j]? = some t → args[j]? = some v → Value.okWide Try.prog W .any base t v := hval0
  have hW' := hW
  obtain ⟨p, q, hA0, hV, rfl, hfz, hnd⟩ := hW
  have hA : DataW.TrodAll enc Try.prog W 0 (fun _ => true) true Try.f8.params.toList args.toList ds p := hA0
  rw [Try.params8] at hA hval
  obtain ⟨v0, vs0, d0, ds0, p0, q0, hargs, rfl, rfl, h0, r0⟩ := trodAll_cons hA
  obtain ⟨v1, vs1, d1, ds1, p1, q1, rfl, rfl, rfl, h1, r1⟩ := trodAll_cons r0
  obtain ⟨v2, vs2, d2, ds2, p2, q2, rfl, rfl, rfl, h2, r2⟩ := trodAll_cons r1
  obtain ⟨rfl, rfl, rfl⟩ := trodAll_nil r2
  obtain rfl : args = #[v0, v1, v2] := by cases args; simp_all
  obtain ⟨rfl, rfl⟩ := trodVars_none hV
  obtain ⟨a0, rfl, rfl, rfl, w0⟩ := open_int Try.underlying5 (hval 0 5 v0 rfl rfl) h0
  obtain ⟨a1, rfl, rfl, rfl, w1⟩ := open_int Try.underlying5 (hval 1 5 v1 rfl rfl) h1
  obtain ⟨a2, rfl, rfl, rfl, w2⟩ := open_int Try.underlying23 (hval 2 23 v2 rfl rfl) h2
  clear hA0 hval0
  simp only [List.append_nil] at hW'
  have b0 : 0 ≤ a0 ∧ a0 < 256 := by
    have h := w0
    simp only [Lit.wf, Bool.and_eq_true, decide_eq_true_eq] at h
    have e1 : IntKind.u8.min = 0 := by decide
    have e2 : IntKind.u8.max = 255 := by decide
    omega
  have b1 : 0 ≤ a1 ∧ a1 < 256 := by
    have h := w1
    simp only [Lit.wf, Bool.and_eq_true, decide_eq_true_eq] at h
    have e1 : IntKind.u8.min = 0 := by decide
    have e2 : IntKind.u8.max = 255 := by decide
    omega
  have b2 : 0 ≤ a2 ∧ a2 < 4294967296 := by
    have h := w2
    simp only [Lit.wf, Bool.and_eq_true, decide_eq_true_eq] at h
    have e1 : IntKind.u32.min = 0 := by decide
    have e2 : IntKind.u32.max = 4294967295 := by decide
    omega
  refine (decjumps_walk a0 a1 a2 W b0.1 b0.2 b1.1 b1.2 b2.1 b2.2).mono fun e W' ⟨he, hg⟩ => ?_
  subst he
  exact ⟨_, rfl, post_plain hW' hg (fun sp => (trodAll_cons_mk (shut_int Try.underlying5 w0) (trodAll_cons_mk (shut_int Try.underlying5 w1) (trodAll_cons_mk (shut_int Try.underlying23 w2) trodAll_mk0)))) (fun _ => rfl)
    (fun _ _ _ => (trodAll_cons_mk (shut_bool Try.underlying4 _) trodAll_mk0)) (ok_one (by kernel_rfl) rfl (okWide_bool_mk Try.underlying4 _))⟩

theorem decodeJumps_holds : Rows.DecodeJumpsSaid :=
  OpenClaim.holds_of_wide 8 Try.f8 rfl rfl rfl rfl rfl rfl rfl ⟨rfl, rfl, rfl, rfl, rfl⟩ rfl rfl rfl rfl rfl (by kernel_rfl) Try.func8 (by kernel_rfl)
    (of_decide_eq_true (by kernel_rfl)) (by unfold Func.isWrapper; first | (rw [if_pos (by decide +kernel)]; kernel_rfl) | (rw [if_neg (by decide +kernel)]; exact ⟨rfl, rfl⟩))
    (fun os started H enc _ => decodeJumps_lifted os started H enc)
#print axioms decodeJumps_holds
end Go.Proofs.Ytlhfpfiehgcciaa
