/- Which pages were set, and that reading sets none. -/
import Derived.Test.YtglcbhfkoigedaaKnown6
import Derived.Deep.QuietTactic
import Derived.BigQuiet
import Derived.Deep.DeepCutAuto
namespace Go.Proofs.Ytglcbhfkoigedaa
open Go.ChangeShapes Go.WideShapes Go.ChangeAt Go.RowKit

def pgOf (bs : Nat → Int) : Nat → Int → Bool
  | 0 => fun _ => false
  | k + 1 => setP (pgOf bs k) (bs k * 1000)
theorem pgOf_iff (bs : Nat → Int) (q : Int) : ∀ L : Nat, pgOf bs L q = true ↔ ∃ i, i < L ∧ q = bs i * 1000 / 4096 * 4096
  | 0 => by simp [pgOf]
  | L + 1 => by
    unfold pgOf setP
    rw [Bool.or_eq_true, pgOf_iff bs q L, beq_iff_eq]
    constructor
    · rintro (h | ⟨i, hi, h⟩)
      · exact ⟨L, by omega, h⟩
      · exact ⟨i, by omega, h⟩
    · rintro ⟨i, hi, h⟩
      by_cases e : i = L
      · subst e; exact .inl h
      · exact .inr ⟨i, by omega, h⟩
theorem rising_len : ∀ (l : List Int) (L : Nat) (f : Nat → Int), l.Pairwise (· < ·) → (∀ q ∈ l, ∃ i, i < L ∧ q = f i) → l.length ≤ L := by
  intro l L
  induction L generalizing l with
  | zero =>
    intro f _ h
    cases l with
    | nil => simp
    | cons a l => obtain ⟨i, hi, _⟩ := h a (by simp); omega
  | succ L ih =>
    intro f hp h
    have hsub : (l.filter (· != f L)).length ≤ L := ih _ f (hp.filter _) fun q hq => by
      simp only [List.mem_filter, bne_iff_ne, ne_eq] at hq
      obtain ⟨i, hi, e⟩ := h q hq.1
      exact ⟨i, by
        by_cases e2 : i = L
        · subst e2; exact absurd e hq.2
        · omega, e⟩
    have hlen : ∀ m : List Int, m.Pairwise (· < ·) → m.length ≤ (m.filter (· != f L)).length + 1 := by
      intro m
      induction m with
      | nil => simp
      | cons a m ihm =>
        intro hm
        rw [List.pairwise_cons] at hm
        by_cases ha : a = f L
        · have hall : m.filter (· != f L) = m := by
            rw [List.filter_eq_self]
            intro q hq
            have := hm.1 q hq
            simp only [bne_iff_ne, ne_eq]
            omega
          simp [ha, hall]
        · have := ihm hm.2
          simp [ha]
          omega
    have := hlen l hp
    omega
theorem pages_none (l : List Int) (h : IsPages (fun _ => false) l) : l = [] := by
  cases l with
  | nil => rfl
  | cons a l => have := (h.2 a).1 (by simp); simp at this
theorem pages_all (bs : Nat → Int) (L : Nat) (l : List Int) (h : IsPages (pgOf bs L) l) : l.length ≤ L :=
  rising_len l L (fun i => bs i * 1000 / 4096 * 4096) h.1 fun q hq => (pgOf_iff bs q L).1 ((h.2 q).1 hq)
theorem page_hit (bs : Nat → Int) (L : Nat) (l : List Int) (h : IsPages (pgOf bs L) l) (i : Nat) (hi : i < L) : ∃ k, k < l.length ∧ l.getD k 0 = bs i * 1000 / 4096 * 4096 := by
  have := (h.2 (bs i * 1000 / 4096 * 4096)).2 ((pgOf_iff bs _ L).2 ⟨i, hi, rfl⟩)
  obtain ⟨k, hk, e⟩ := List.getElem_of_mem this
  exact ⟨k, hk, by simp only [List.getD, List.getElem?_eq_getElem hk, Option.getD_some, e]⟩
theorem page_round (bs : Nat → Int) (L : Nat) (l : List Int) (h : IsPages (pgOf bs L) l) (k : Nat) (hk : k < l.length) : l.getD k 0 % 4096 = 0 := by
  have hm : l.getD k 0 ∈ l := by simp only [List.getD, List.getElem?_eq_getElem hk, Option.getD_some]; exact List.getElem_mem hk
  obtain ⟨i, _, e⟩ := (pgOf_iff bs _ L).1 ((h.2 _).1 hm)
  rw [e]; omega
theorem page_rise (l : List Int) (h : l.Pairwise (· < ·)) (k : Nat) (hk : k + 1 < l.length) : l.getD k 0 < l.getD (k + 1) 0 := by
  have := List.pairwise_iff_getElem.1 h k (k + 1) (by omega) hk (by omega)
  simpa only [List.getD, List.getElem?_eq_getElem hk, List.getElem?_eq_getElem (show k < l.length by omega), Option.getD_some] using this
theorem below_drewN {B : Nat} {a w : World} (h : Below B a w) (n : Nat) : Below B a (w.drewN n) := ⟨h.os, h.tape, h.output, h.size, h.block⟩
theorem page_bits (x : Int) (h0 : 0 ≤ x) (h1 : x < 4294967296) : bits .andNot .u32 x 4095 = x / 4096 * 4096 := by
  rw [u32_andNot x 4095 h0 h1 (by decide) (by decide)]
  obtain ⟨n, rfl⟩ := Int.eq_ofNat_of_zero_le h0
  rw [Int.toNat_natCast, show (4294967295 - Int.toNat 4095) = 4294963200 from rfl]
  have e : n &&& 4294963200 = n / 4096 * 4096 := by
    have hn : n < 2 ^ 32 := by omega
    apply Nat.eq_of_testBit_eq
    intro i
    rw [Nat.testBit_and, show (4096 : Nat) = 2 ^ 12 from rfl, ← Nat.shiftRight_eq_div_pow, ← Nat.shiftLeft_eq, Nat.testBit_shiftLeft, Nat.testBit_shiftRight]
    by_cases h12 : 12 ≤ i
    · rw [show 12 + (i - 12) = i by omega]
      by_cases h32 : i < 32
      · have : (4294963200 : Nat).testBit i = true := by
          have hi : i = 12 ∨ i = 13 ∨ i = 14 ∨ i = 15 ∨ i = 16 ∨ i = 17 ∨ i = 18 ∨ i = 19 ∨ i = 20 ∨ i = 21 ∨ i = 22 ∨ i = 23 ∨ i = 24 ∨ i = 25 ∨ i = 26 ∨ i = 27 ∨ i = 28 ∨ i = 29 ∨ i = 30 ∨ i = 31 := by omega
          rcases hi with rfl | rfl | rfl | rfl | rfl | rfl | rfl | rfl | rfl | rfl | rfl | rfl | rfl | rfl | rfl | rfl | rfl | rfl | rfl | rfl <;> decide
        rw [this]
        simp [h12]
      · have : n.testBit i = false := Nat.testBit_lt_two_pow (Nat.lt_of_lt_of_le hn (Nat.pow_le_pow_right (by omega) (by omega)))
        rw [this]
        simp
    · have : (4294963200 : Nat).testBit i = false := by
        have hi : i = 0 ∨ i = 1 ∨ i = 2 ∨ i = 3 ∨ i = 4 ∨ i = 5 ∨ i = 6 ∨ i = 7 ∨ i = 8 ∨ i = 9 ∨ i = 10 ∨ i = 11 := by omega
        rcases hi with rfl | rfl | rfl | rfl | rfl | rfl | rfl | rfl | rfl | rfl | rfl | rfl <;> decide
      rw [this]
      simp [h12]
  rw [e]
  omega
def hitB (f : Nat → Int) (T : Int) : Nat → Bool
  | 0 => false
  | k + 1 => hitB f T k || f k == T
theorem hit_end (f : Nat → Int) (T : Int) : ∀ (N k : Nat), k < N → f k = T → hitB f T N = true
  | 0, _, h, _ => by omega
  | N + 1, k, h, e => by
    unfold hitB
    by_cases hk : k = N
    · subst hk; simp [e]
    · rw [hit_end f T N k (by omega) e]; rfl
set_option maxRecDepth 100000 in
set_option maxHeartbeats 4000000 in
theorem mempages_walk (a : Int) (v : Value) (L : Nat) (bs : Nat → Int) (w : World) (a0 : 0 ≤ a) (a1 : a < 4294967296) (hs : Slc .u16 w v L bs) (hb : ∀ i, 0 ≤ bs i ∧ bs i < 65536) (hL : L ≤ maxLen) :
    Calls Try.prog 5 #[.int .u32 a, v] w fun e w' => e = .returned (.bool true) ∧ Below w.heap.size w w' := by
  unfold maxLen at hL
  obtain ⟨x, cap, rfl⟩ := hs.len
  go_enter Try.func5, Try.ntmps5
  go_wp2_with fail
  refine (known6_any _).mono ?_
  rintro e w0 ⟨rfl, B0⟩
  by_cases hbig : 30 < L
  · have hd : decide ((30 : Int) < (L : Int)) = true := decide_eq_true (by omega)
    go_wp2
    go_ret
    exact ⟨rfl, B0⟩
  have hd : decide ((30 : Int) < (L : Int)) = false := decide_eq_false (by omega)
  have hL' : L ≤ 30 := by omega
  clear hbig
  go_wp2_with fail
  refine (min_new (w0 := w) _ B0).mono ?_
  rintro e w1 ⟨p, F, rfl, M1, _, hb1⟩
  clear B0 hb1
  go_wp2_with fail
  refine (min_read M1 a 5000 a0 a1).mono ?_
  rintro e w2 ⟨v2, rfl, _, M2, _⟩
  clear M1
  go_wp2_with fail
  refine (min_get M2 a a0 a1).mono ?_
  rintro e w3 ⟨rfl, M3, _⟩
  clear M2
  go_wp2_with fail
  refine (min_write M3 a (.slice none 0 0) 0 (fun _ => 0) a0 a1 (by omega) (fun _ => ⟨by omega, by omega⟩) (.inl ⟨rfl, rfl⟩) (fun h => by omega)).mono ?_
  rintro e w4 ⟨F4, rfl, M4, _, _⟩
  clear M3
  go_wp2_with fail
  refine (min_pages M4).mono ?_
  rintro e w5 ⟨v5, l5, rfl, hs5, hp5, M5, _⟩
  clear M4
  obtain rfl := pages_none l5 hp5
  obtain ⟨x5, c5, rfl⟩ := hs5.len
  clear hs5 hp5
  simp only [List.length_nil]
  go_wp2_with fail
  clear hd
  go_loopw [6] (fun u wr => ∃ i : Nat, i ≤ L ∧ u = .int .i64 i ∧ ∃ F' g', MIn w wr p F' g' (pgOf bs i)) (fun u _ => L - (intOf u).toNat)
  case atStart => exact ⟨0, by omega, rfl, F4, _, M5⟩
  case round =>
    obtain ⟨i, hi, rfl, F', g', M6⟩ := hrel
    obtain ⟨wo, rfl⟩ : ∃ wo : World, wo = wr := ⟨_, rfl⟩
    by_cases hlt : i < L
    · have s6 := hs.below M6.low
      rcases s6 with ⟨_, h0⟩ | ⟨ad, cap', hx, _, hc⟩
      · omega
      injection hx with hx _ hcp
      subst hx
      subst hcp
      have hci := hc i hlt
      clear hc
      have hd : decide ((i : Int) < (L : Int)) = true := decide_eq_true (by omega)
      obtain ⟨b0, b1⟩ := hb i
      obtain ⟨bi, hbi⟩ : ∃ q, q = bs i := ⟨_, rfl⟩
      have hpg := Lib.hid (show pgOf bs (i + 1) = setP (pgOf bs i) (bi * 1000) by rw [hbi]; rfl)
      rw [← hbi] at hci b0 b1
      clear hbi
      go_wp2_with fail
      refine (min_set M6 (bi * 1000) 0 (by omega) (by omega) (by decide) (by decide)).mono ?_
      rintro e w7 ⟨F7, rfl, M7, _, _⟩
      go_wp2_with fail
      go_roundw
      case rel => exact ⟨i + 1, by omega, by go_num, F7, _, by rw [hpg.out]; exact M7⟩
      case measure => simp [intOf]; try omega
    · obtain rfl : i = L := by omega
      have hd : decide ((i : Int) < (i : Int)) = false := by simp
      go_wp2_with fail
      clear hd
      refine (min_pages M6).mono ?_
      rintro e w8 ⟨v8, ps, rfl, hs8, hp8, M8, _⟩
      clear M6
      obtain ⟨x8, c8, rfl⟩ := hs8.len
      have hround := fun k (hk : k < ps.length) => page_round bs i ps hp8 k hk
      have hrise := page_rise ps hp8.1
      have hhit := fun j (hj : j < i) => page_hit bs i ps hp8 j hj
      have hlen := pages_all bs i ps hp8
      have hlt8 : ∀ k, k < ps.length → 0 ≤ ps.getD k 0 ∧ ps.getD k 0 < 4294967296 := fun k hk => by
        have hm : ps.getD k 0 ∈ ps := by simp only [List.getD, List.getElem?_eq_getElem hk, Option.getD_some]; exact List.getElem_mem hk
        obtain ⟨j, _, e⟩ := (pgOf_iff bs _ i).1 ((hp8.2 _).1 hm)
        have := hb j
        rw [e]; omega
      have s8 := hs.below M8.low
      have hlow := M8.low
      clear hp8 M8
      generalize ps.length = N at *
      generalize hf : (fun k => ps.getD k 0) = f at *
      have hf' : ∀ k, ps.getD k 0 = f k := fun k => by rw [← hf]
      simp only [hf'] at hround hrise hhit hlt8
      clear hf hf'
      go_wp2_with fail
      go_loopw [8] (fun u wr => ∃ k : Nat, k ≤ N ∧ u = .int .i64 k ∧ Below w8.heap.size w8 wr) (fun u _ => N - (intOf u).toNat)
      case atStart => exact ⟨0, by omega, rfl, Below.refl _ _⟩
      case round =>
        obtain ⟨k, hk, rfl, hr⟩ := hrel
        have t8 := hs8.below hr
        obtain ⟨wo, hwo⟩ : ∃ wo : World, wo = wr := ⟨_, rfl⟩
        rw [← hwo] at hr t8 ⊢
        clear hwo
        by_cases hlk : k < N
        · rcases t8 with ⟨_, h0⟩ | ⟨ad, cap', hx, hcap, hc⟩
          · omega
          injection hx with hx _ hcp
          subst hx
          subst hcp
          have hck := hc k hlk
          have h1 := hround k hlk
          have h2 := hlt8 k hlk
          have hd : decide ((k : Int) < (N : Int)) = true := decide_eq_true (by omega)
          have hm0 : (f k).tmod 4096 = 0 := by rw [Int.tmod_eq_emod_of_nonneg h2.1]; exact h1
          have hm1 : f k % 4096 = 0 := h1
          have hi0 : (0 : Int) ≤ (k : Int) := by omega
          have hi1 : (k : Int) < (N : Int) := by omega
          by_cases hk0 : k = 0
          · have hz : decide ((0 : Int) < (k : Int)) = false := decide_eq_false (by omega)
            have hz' : decide (0 < k) = false := decide_eq_false (by omega)
            clear hc hround hrise hhit hlt8 hk0 h1
            go_upto_region 19 with (fail)
            refine wp_region_quiet_lit (by kernel_rfl) (by kernel_rfl) ?_
            repeat (any_goals (first | go_big_quiet_step (fail) | quiet_step (fail) | (refine wpQuiet_step (fun K hK => ?_); go_simp; split <;> (refine hK _ ?_; clear hK K))))
            all_goals (refine wpQuiet_nil ?_; intro _ hw'; obtain ⟨nq, hw''⟩ := hw'; subst hw'')
            go_wp2_with fail
            go_roundw
            case rel => exact ⟨k + 1, by omega, by go_num, below_drewN hr _⟩
            case measure => simp [intOf]; try omega
          · have hz : decide ((0 : Int) < (k : Int)) = true := decide_eq_true (by omega)
            have hz' : decide (0 < k) = true := decide_eq_true (by omega)
            have hcp := hc (k - 1) (by omega)
            have hrs := hrise (k - 1) (by omega)
            rw [show k - 1 + 1 = k by omega] at hrs
            have hle : decide (f k ≤ f (k - 1)) = false := decide_eq_false (by omega)
            have hw1 : IntKind.i64.wrap ((k : Int) - 1) = ((k - 1 : Nat) : Int) := by rw [IntKind.wrap_i64]; omega
            have hi2 : (0 : Int) ≤ ((k - 1 : Nat) : Int) := by omega
            have hi3 : ((k - 1 : Nat) : Int) < (N : Int) := by omega
            clear hc hround hrise hhit hlt8 hk0 h1 hrs
            go_upto_region 19 with (fail)
            refine wp_region_quiet_lit (by kernel_rfl) (by kernel_rfl) ?_
            repeat (any_goals (first | go_big_quiet_step (fail) | quiet_step (fail) | (refine wpQuiet_step (fun K hK => ?_); go_simp; split <;> (refine hK _ ?_; clear hK K))))
            all_goals (refine wpQuiet_nil ?_; intro _ hw'; obtain ⟨nq, hw''⟩ := hw'; subst hw'')
            go_wp2_with fail
            go_roundw
            case rel => exact ⟨k + 1, by omega, by go_num, below_drewN hr _⟩
            case measure => simp [intOf]; try omega
        · obtain rfl : k = N := by omega
          have hd : decide ((k : Int) < (k : Int)) = false := by simp
          clear hround hrise t8
          go_wp2_with fail
          clear hd
          obtain ⟨wl, hwl⟩ : ∃ wl : World, wl = wo := ⟨_, rfl⟩
          rw [← hwl] at hr ⊢
          clear hwl
          go_loopw [9] (fun u wr => ∃ j : Nat, j ≤ i ∧ u = .int .i64 j ∧ Below w8.heap.size w8 wr) (fun u _ => i - (intOf u).toNat)
          case atStart => exact ⟨0, by omega, rfl, hr⟩
          case round =>
            obtain ⟨j, hj, rfl, hr3⟩ := hrel
            obtain ⟨w9, hw9⟩ : ∃ wl : World, wl = wr := ⟨_, rfl⟩
            rw [← hw9] at hr3 ⊢
            clear hw9
            by_cases hlj : j < i
            · have hd : decide ((j : Int) < (i : Int)) = true := decide_eq_true (by omega)
              obtain ⟨b0, b1⟩ := hb j
              obtain ⟨kk, hkk, hT⟩ := hhit j hlj
              have sj := hs.below hlow
              rcases sj with ⟨_, h0⟩ | ⟨al, cap', hx, _, hcl⟩
              · omega
              injection hx with hx _ hcp
              subst hx
              subst hcp
              have hcj := hcl j hlj
              obtain ⟨bj, hbj⟩ : ∃ q, q = bs j := ⟨_, rfl⟩
              rw [← hbj] at b0 b1 hT hcj
              obtain ⟨T, hTT⟩ : ∃ T, T = bj * 1000 / 4096 * 4096 := ⟨_, rfl⟩
              have hN : bits .andNot .u32 (bj * 1000) 4095 = T := by rw [hTT]; exact page_bits (bj * 1000) (by omega) (by omega)
              have hW : IntKind.u32.wrap (bj * 1000) = bj * 1000 := by rw [IntKind.wrap_u32]; omega
              rw [← hTT] at hT
              clear hTT hbj hcl
              have hend := hit_end f T k kk hkk hT
              have hend' := Lib.hid hend
              clear hend hT
              go_wp2_with fail
              clear hd
              go_loopw [10, 11] (fun t u wr => ∃ m : Nat, m ≤ k ∧ u = .int .i64 m ∧ t = .bool (hitB f T m) ∧ Below w8.heap.size w8 wr) (fun _ u _ => k - (intOf u).toNat)
              case atStart => exact ⟨0, by omega, rfl, rfl, hr3⟩
              case round =>
                obtain ⟨m, hm, rfl, rfl, hr4⟩ := hrel
                obtain ⟨wz, hwz⟩ : ∃ wl : World, wl = wr := ⟨_, rfl⟩
                rw [← hwz] at hr4 ⊢
                clear hwz
                by_cases hlm : m < k
                · have hd : decide ((m : Int) < (k : Int)) = true := decide_eq_true (by omega)
                  have t8 := hs8.below hr4
                  rcases t8 with ⟨_, h0⟩ | ⟨ad, cap', hx, hcap, hc⟩
                  · omega
                  injection hx with hx _ hcp
                  subst hx
                  subst hcp
                  have hcm := hc m hlm
                  have hcj4 := cell_call hr4 hcj
                  have hstep := Lib.hid (show hitB f T (m + 1) = (hitB f T m || f m == T) from rfl)
                  have h2 := hlt8 m hlm
                  have hi0 : (0 : Int) ≤ (m : Int) := by omega
                  have hi1 : (m : Int) < (k : Int) := by omega
                  have hi2 : (0 : Int) ≤ (j : Int) := by omega
                  have hi3 : (j : Int) < (i : Int) := by omega
                  clear hc hcj hhit hlt8
                  cases hh : hitB f T m
                  · by_cases hq : f m = T
                    · have hq' : (f m == T) = true := by rw [beq_iff_eq]; exact hq
                      clear hq
                      go_upto_region 28 with (fail)
                      refine wp_region_quiet_lit (by kernel_rfl) (by kernel_rfl) ?_
                      repeat (any_goals (first | go_big_quiet_step (fail) | quiet_step (fail) | (refine wpQuiet_step (fun K hK => ?_); go_simp; split <;> (refine hK _ ?_; clear hK K))))
                      all_goals (refine wpQuiet_nil ?_; intro _ hw'; obtain ⟨nq, hw''⟩ := hw'; subst hw'')
                      go_wp2_with fail
                      go_roundw
                      case rel => exact ⟨m + 1, by omega, by go_num, by rw [hstep.out, hh, hq']; rfl, below_drewN hr4 _⟩
                      case measure => simp [intOf]; try omega
                    · have hq' : (f m == T) = false := by rw [beq_eq_false_iff_ne]; exact hq
                      clear hq
                      go_upto_region 28 with (fail)
                      refine wp_region_quiet_lit (by kernel_rfl) (by kernel_rfl) ?_
                      repeat (any_goals (first | go_big_quiet_step (fail) | quiet_step (fail) | (refine wpQuiet_step (fun K hK => ?_); go_simp; split <;> (refine hK _ ?_; clear hK K))))
                      all_goals (refine wpQuiet_nil ?_; intro _ hw'; obtain ⟨nq, hw''⟩ := hw'; subst hw'')
                      go_wp2_with fail
                      go_roundw
                      case rel => exact ⟨m + 1, by omega, by go_num, by rw [hstep.out, hh, hq']; rfl, below_drewN hr4 _⟩
                      case measure => simp [intOf]; try omega
                  · go_upto_region 28 with (fail)
                    refine wp_region_quiet_lit (by kernel_rfl) (by kernel_rfl) ?_
                    repeat (any_goals (first | go_big_quiet_step (fail) | quiet_step (fail) | (refine wpQuiet_step (fun K hK => ?_); go_simp; split <;> (refine hK _ ?_; clear hK K))))
                    all_goals (refine wpQuiet_nil ?_; intro _ hw'; obtain ⟨nq, hw''⟩ := hw'; subst hw'')
                    go_wp2_with fail
                    go_roundw
                    case rel => exact ⟨m + 1, by omega, by go_num, by rw [hstep.out, hh]; rfl, below_drewN hr4 _⟩
                    case measure => simp [intOf]; try omega
                · obtain rfl : m = k := by omega
                  have hd : decide ((m : Int) < (m : Int)) = false := by simp
                  rw [hend'.out]
                  clear hhit hlt8
                  go_wp2_with fail
                  go_roundw
                  case rel => exact ⟨j + 1, by omega, by go_num, hr4⟩
                  case measure => simp [intOf]; try omega
            · obtain rfl : j = i := by omega
              have hd : decide ((j : Int) < (j : Int)) = false := by simp
              have hle : decide ((k : Int) ≤ (j : Int)) = true := decide_eq_true (by omega)
              clear hhit hlt8
              go_wp2_with fail
              go_ret
              exact ⟨by simp, hlow.trans (hr3.mono hlow.size)⟩
end Go.Proofs.Ytglcbhfkoigedaa
