/- How many bits a number has (math/bits.Len); the next power of two. -/
import Derived.Test.YtglcbhfkoigedaaSortD
import Derived.Laws.MathBits
namespace Go.Proofs.Ytglcbhfkoigedaa
open Go.ChangeShapes Go.WideShapes Go.ChangeAt Go.RowKit Go.Maps Go.Deep Go.Sort

theorem wrap_len (k a : Nat) (hk : k ≤ 24) (ha : a ≤ 8) : RowKit.wrap64 ((k : Int) + RowKit.wrap64 (a : Int)) = ((k + a : Nat) : Int) := by
  unfold RowKit.wrap64
  omega
theorem wrap_len0 (a : Nat) (ha : a ≤ 8) : RowKit.wrap64 (a : Int) = (a : Int) := by
  unfold RowKit.wrap64
  omega
theorem wrap_len1 (a : Nat) (ha : a ≤ 8) : RowKit.wrap64 (RowKit.wrap64 (a : Int)) = (a : Int) := by
  unfold RowKit.wrap64
  omega
set_option maxRecDepth 1000000 in
set_option maxHeartbeats 4000000 in
theorem len64_any (x : Nat) (hx : x < 4294967296) (w : World) : Calls Try.prog 40 #[.int .u64 x] w fun e w' => e = .returned (.int .i64 (Go.bitLen x : Nat)) ∧ w' = w := by
  have d1 : decide ((4294967296 : Int) ≤ (x : Int)) = false := decide_eq_false (by omega)
  go_enter Try.func40, Try.ntmps40
  by_cases h16 : 65536 ≤ x
  · have d2 : decide ((65536 : Int) ≤ (x : Int)) = true := decide_eq_true (by omega)
    have hs : Go.bitLen x = 16 + Go.bitLen (x / 65536) := Go.bitLen_shift x 16 (by show x / 65536 ≠ 0; omega)
    by_cases h8 : 16777216 ≤ x
    · have d3 : decide ((256 : Int) ≤ (x : Int) / 65536) = true := decide_eq_true (by omega)
      have h7 : (x : Int) / 65536 / 256 < 256 := by omega
      have h6 : 0 ≤ (x : Int) / 65536 / 256 := by omega
      have hs2 : Go.bitLen (x / 65536) = 8 + Go.bitLen (x / 65536 / 256) := Go.bitLen_shift (x / 65536) 8 (by show x / 65536 / 256 ≠ 0; omega)
      have hw : RowKit.wrap64 (24 + RowKit.wrap64 (Go.bitLen (x / 65536 / 256) : Nat)) = ((24 + Go.bitLen (x / 65536 / 256) : Nat) : Int) := wrap_len 24 _ (by omega) (Go.bitLen_le8 (x / 65536 / 256) (by omega))
      have HS := Lib.hid (show Go.bitLen x = 24 + Go.bitLen (x / 65536 / 256) by omega)
      have HW := Lib.hid hw
      clear hs hs2 hw
      go_wp2_with fail
      go_ret
      simp only [len8tab_get]
      refine ⟨?_, trivial⟩
      rw [HS.out]
      exact congrArg (fun z => Ending.returned (Value.int .i64 z)) HW.out
    · have d3 : decide ((256 : Int) ≤ (x : Int) / 65536) = false := decide_eq_false (by omega)
      have h7 : (x : Int) / 65536 < 256 := by omega
      have h6 : 0 ≤ (x : Int) / 65536 := by omega
      have hw : RowKit.wrap64 (16 + RowKit.wrap64 (Go.bitLen (x / 65536) : Nat)) = ((16 + Go.bitLen (x / 65536) : Nat) : Int) := wrap_len 16 _ (by omega) (Go.bitLen_le8 (x / 65536) (by omega))
      have HS := Lib.hid hs
      have HW := Lib.hid hw
      clear hs hw
      go_wp2_with fail
      go_ret
      simp only [len8tab_get]
      refine ⟨?_, trivial⟩
      rw [HS.out]
      exact congrArg (fun z => Ending.returned (Value.int .i64 z)) HW.out
  · have d2 : decide ((65536 : Int) ≤ (x : Int)) = false := decide_eq_false (by omega)
    by_cases h8 : 256 ≤ x
    · have d3 : decide ((256 : Int) ≤ (x : Int)) = true := decide_eq_true (by omega)
      have h7 : (x : Int) / 256 < 256 := by omega
      have h6 : 0 ≤ (x : Int) / 256 := by omega
      have hs : Go.bitLen x = 8 + Go.bitLen (x / 256) := Go.bitLen_shift x 8 (by show x / 256 ≠ 0; omega)
      have hw : RowKit.wrap64 (8 + RowKit.wrap64 (Go.bitLen (x / 256) : Nat)) = ((8 + Go.bitLen (x / 256) : Nat) : Int) := wrap_len 8 _ (by omega) (Go.bitLen_le8 (x / 256) (by omega))
      have HS := Lib.hid hs
      have HW := Lib.hid hw
      clear hs hw
      go_wp2_with fail
      go_ret
      simp only [len8tab_get]
      refine ⟨?_, trivial⟩
      rw [HS.out]
      exact congrArg (fun z => Ending.returned (Value.int .i64 z)) HW.out
    · have d3 : decide ((256 : Int) ≤ (x : Int)) = false := decide_eq_false (by omega)
      have h7 : (x : Int) < 256 := by omega
      have hw := Lib.hid (wrap_len1 (Go.bitLen x) (Go.bitLen_le8 x (by omega)))
      go_wp2_with fail
      go_ret
      simp only [len8tab_get]
      refine ⟨?_, trivial⟩
      exact congrArg (fun z => Ending.returned (Value.int .i64 z)) hw.out
theorem bitLen_32 (x : Nat) (hx : x < 4294967296) : Go.bitLen x ≤ 32 := by
  unfold Go.bitLen
  split
  · omega
  · rename_i h0
    have := (Nat.log2_lt h0).2 (show x < 2 ^ 32 from hx)
    omega
set_option maxRecDepth 100000 in
theorem len_any (x : Nat) (hx : x < 4294967296) (w : World) : Calls Try.prog 29 #[.int .u64 x] w fun e w' => e = .returned (.int .i64 (Go.bitLen x : Nat)) ∧ w' = w := by
  go_enter Try.func29, Try.ntmps29
  go_wp2_with (go_at_call 40; refine (len64_any x hx _).mono ?_; rintro e w' ⟨rfl, rfl⟩)
  go_ret
  simp
/-- the least power of two above x -/
theorem next_any (x : Nat) (hx : x < 2147483648) (w : World) : Calls Try.prog 42 #[.int .i64 x] w fun e w' => ∃ m : Nat, e = .returned (.int .u64 m) ∧ w' = w ∧ 1 ≤ m ∧ (0 < x → m ≤ 2 * x) := by
  have hb := bitLen_32 x (by omega)
  have hsp := Go.bitLen_spec x
  go_enter Try.func42, Try.ntmps42
  go_wp2_with (go_at_call 29; refine (len_any x (by omega) _).mono ?_; rintro e w' ⟨rfl, rfl⟩)
  go_ret
  have hk : 2 ^ Go.bitLen x ≤ 2 ^ 32 := Nat.pow_le_pow_right (by omega) hb
  have hc : ((2 ^ Go.bitLen x : Nat) : Int) = (2 : Int) ^ Go.bitLen x := by push_cast; rfl
  have hp : 0 < 2 ^ Go.bitLen x := Nat.two_pow_pos _
  refine ⟨2 ^ Go.bitLen x, ?_, rfl, hp, ?_⟩
  · have e : IntKind.u64.wrap ((2 : Int) ^ Go.bitLen x) = ((2 ^ Go.bitLen x : Nat) : Int) := by
      rw [← hc, IntKind.wrap_u64]
      omega
    exact congrArg (fun z => Ending.returned (Value.int .u64 z)) e
  · intro hx0
    have h0 : ¬ x = 0 := by omega
    · have h1 := hsp.2 h0
      have h2 : 1 ≤ Go.bitLen x := by
        unfold Go.bitLen
        rw [if_neg h0]
        omega
      obtain ⟨j, hj⟩ : ∃ j, Go.bitLen x = j + 1 := ⟨Go.bitLen x - 1, by omega⟩
      rw [hj] at h1 ⊢
      simp only [Nat.add_sub_cancel] at h1
      rw [Nat.pow_succ]
      omega
/-- a number of 64 bits at S -/
structure CelS (W w : World) (S : Nat) (r : Int) : Prop where
  cell : w.cell? ⟨S, 0, none⟩ = some (.int .u64 r)
  fro : w.frozen? ⟨S, 0, none⟩ = false
  but : But (· = S) W w
  r0 : 0 ≤ r
  r1 : r < 18446744073709551616
theorem CelS.put {W w : World} {S : Nat} {r : Int} (h : CelS W w S r) (x y : Int) : CelS W (w.setCell ⟨S, 0, none⟩ (.int .u64 (bits .xor .u64 x y))).drew S (bits .xor .u64 x y) :=
  ⟨World.cell?_setCell_same _ _ _ h.cell, by show (w.setCell _ _).frozen? _ = false; rw [World.frozen?_setCell]; exact h.fro, (h.but.setCell (a := ⟨S, 0, none⟩) (fun _ => rfl) _).drew, (bits_within .xor .u64 x y).1, by have := bits_hi_u64 .xor x y; omega⟩
set_option maxRecDepth 100000 in
set_option maxHeartbeats 2000000 in
theorem xor_any (S : Nat) (r : Int) (W w : World) (hr : CelS W w S r) :
    Calls Try.prog 43 #[.pointer (some ⟨S, 0, none⟩)] w fun e w' => ∃ r', e = .returned (.int .u64 r') ∧ CelS W w' S r' := by
  have hc := hr.cell
  have hf := hr.fro
  have k1 := hr.put r (IntKind.u64.wrap (r * 8192))
  obtain ⟨r2, hr2⟩ : ∃ r2, r2 = bits .xor .u64 r (IntKind.u64.wrap (r * 8192)) := ⟨_, rfl⟩
  rw [← hr2] at k1
  have K1 := Lib.hid k1
  clear hr k1
  go_enter Try.func43, Try.ntmps43
  go_wp2
  go_region
  rw [← hr2]
  have k1 := K1.out
  clear K1 hr2 hc hf
  generalize (w.setCell ⟨S, 0, none⟩ (.int .u64 r2)).drew = w2 at *
  have hc := k1.cell
  have hf := k1.fro
  have k2 := k1.put r2 (r2 / 128)
  obtain ⟨r3, hr3⟩ : ∃ r3, r3 = bits .xor .u64 r2 (r2 / 128) := ⟨_, rfl⟩
  rw [← hr3] at k2
  have K2 := Lib.hid k2
  have q0 := k1.r0
  have q1 := k1.r1
  clear k1 k2
  go_wp2
  go_region
  rw [← hr3]
  have k2 := K2.out
  clear K2 hr3 hc hf q0 q1
  generalize (w2.setCell ⟨S, 0, none⟩ (.int .u64 r3)).drew = w3 at *
  have hc := k2.cell
  have hf := k2.fro
  have k3 := k2.put r3 (IntKind.u64.wrap (r3 * 131072))
  obtain ⟨r4, hr4⟩ : ∃ r4, r4 = bits .xor .u64 r3 (IntKind.u64.wrap (r3 * 131072)) := ⟨_, rfl⟩
  rw [← hr4] at k3
  have K3 := Lib.hid k3
  clear k2 k3
  go_wp2
  go_region
  rw [← hr4]
  have k3 := K3.out
  clear K3 hr4 hc hf
  generalize (w3.setCell ⟨S, 0, none⟩ (.int .u64 r4)).drew = w4 at *
  have hc := k3.cell
  go_wp2
  go_ret
  exact ⟨r4, rfl, k3⟩
end Go.Proofs.Ytglcbhfkoigedaa
