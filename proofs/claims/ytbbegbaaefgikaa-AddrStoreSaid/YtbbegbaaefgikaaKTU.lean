import Derived.Test.YtbbegbaaefgikaaKTG
import Derived.Test.YtbbegbaaefgikaaKTS
import Derived.Test.YtbbegbaaefgikaaKTT
namespace Go.Proofs.Ytbbegbaaefgikaa
section
open Go.ChangeShapes Go.WideShapes Go.ChangeAt Go.RowKit Go.Maps Go.Deep
set_option maxRecDepth 100000
def fillN (k : Int) : Nat → Int
  | 0 => k
  | i + 1 => (fillN k i * 1664525 + 1013904223) % 4294967296
def fillB (k : Int) (i : Nat) : Int := fillN k (i + 1) / 16777216
theorem fillN_ok (k : Int) (k0 : 0 ≤ k) (k1 : k < 4294967296) : ∀ i, 0 ≤ fillN k i ∧ fillN k i < 4294967296
  | 0 => ⟨k0, k1⟩
  | i + 1 => by unfold fillN; omega
theorem fillB_ok (k : Int) (i : Nat) : 0 ≤ fillB k i ∧ fillB k i < 256 := by
  unfold fillB fillN
  omega
set_option maxHeartbeats 2000000
theorem fill_any (N : Nat) (hN : N ≤ 1048576) (k : Int) (k0 : 0 ≤ k) (k1 : k < 4294967296) (w : World) :
    Calls Try.prog 14 #[.int .i64 (N : Int), .int .u32 k] w fun e w' => ∃ v, e = .returned v ∧ v.ownBlock = some w.heap.size ∧ Slc .u8 w' v N (fillB k) ∧ Below w.heap.size w w' := by
  have hmk := run_make_row' (P := Try.prog) 47 5 (.int .u8 0) 1 Try.underlying47 info_u8 rfl .i64 .i64 N (by omega) (by omega)
  go_enter Try.func14, Try.ntmps14
  go_wp2_with fail
  clear hmk
  have HB1 := Lib.hid (show Below w.heap.size w (w.alloc (.cells (madeCells #[.int .u8 0] N) 5)) from below_last (Below.refl _ _) _)
  have hr0 : ∀ i, i < N → (w.alloc (.cells (madeCells #[.int .u8 0] N) 5)).cell? ⟨w.heap.size, i, none⟩ = some (.int .u8 0) := fun i hi => by
    exact (World.rowIs_made w (.int .u8 0) N 5).cell hi
  have hf0 : ∀ i, (w.alloc (.cells (madeCells #[.int .u8 0] N) 5)).frozen? ⟨w.heap.size, i, none⟩ = false := fun i => by simp
  have HZ0 := Lib.hid (show w.heap.size < (w.alloc (.cells (madeCells #[.int .u8 0] N) 5)).heap.size by simp)
  generalize w.alloc (.cells (madeCells #[.int .u8 0] N) 5) = W at *
  go_loopw [1, 6] (fun v1 v wr => ∃ i : Nat, i ≤ N ∧ v = .int .i64 i ∧ v1 = .int .u32 (fillN k i) ∧ But (· = w.heap.size) W wr ∧ (∀ j, wr.frozen? ⟨w.heap.size, j, none⟩ = false) ∧ (∀ j, j < N → wr.cell? ⟨w.heap.size, j, none⟩ = some (.int .u8 (if j < i then fillB k j else 0)))) (fun _ v _ => N - (intOf v).toNat)
  case atStart => exact ⟨0, by omega, rfl, rfl, But.refl _ _, hf0, fun j hj => by rw [if_neg (by omega)]; exact hr0 j hj⟩
  case round =>
    obtain ⟨i, hi, rfl, rfl, hr, hfz, hcells⟩ := hrel
    have hx := fillN_ok k k0 k1 i
    obtain ⟨x, hX⟩ : ∃ x, fillN k i = x := ⟨_, rfl⟩
    have HX := Lib.hid (show fillN k (i + 1) = (x * 1664525 + 1013904223) % 4294967296 by rw [← hX]; rfl)
    rw [hX] at hx ⊢
    clear hX
    obtain ⟨wo, rfl⟩ : ∃ wo : World, wo = wr := ⟨_, rfl⟩
    by_cases hlt : i < N
    · have hcell := hcells i hlt
      rw [if_neg (by omega)] at hcell
      have hd : decide ((i : Int) < (N : Int)) = true := decide_eq_true (by omega)
      have HC := Lib.hid hcells
      have hfi := hfz i
      have HF := Lib.hid hfz
      have HR := Lib.hid hr
      have h8 : IntKind.u8.wrap ((x * 1664525 + 1013904223) % 4294967296 / 16777216) = fillB k i := by
        unfold fillB
        rw [HX.out, IntKind.wrap_u8]
        omega
      have hxx : (x * 1664525 % 4294967296 + 1013904223) % 4294967296 = (x * 1664525 + 1013904223) % 4294967296 := by omega
      clear hcells hfz hr
      go_wp2_with fail
      go_roundw
      case rel => exact ⟨i + 1, by omega, by go_num, by rw [HX.out, ← hxx], HR.out.setCell (by simp) _, fun j => by rw [World.frozen?_setCell]; exact HF.out j, fun j hj => by
        by_cases hji : j = i
        · subst hji
          rw [if_pos (by omega)]
          exact set_same _ hcell
        · have h2 := HC.out j hj
          rw [set_other _ (by simp; try omega) h2]
          by_cases hlt2 : j < i
          · rw [if_pos hlt2, if_pos (by omega)]
          · rw [if_neg hlt2, if_neg (by omega)]⟩
      case measure => simp [intOf]; try omega
    · obtain rfl : i = N := by omega
      have hd : decide ((i : Int) < (i : Int)) = false := by simp
      have HC := Lib.hid hcells
      have HR := Lib.hid hr
      clear hcells hfz hr
      go_wp2_with fail
      go_ret
      refine ⟨_, rfl, rfl, .inr ⟨_, _, rfl, Nat.le_refl _, fun j hj => ?_⟩, HR.out.below HB1.out (fun q hq => by omega) (by have := HB1.out.size; omega)⟩
      rw [show (⟨w.heap.size, 0, none⟩ : Addr).add j = ⟨w.heap.size, j, none⟩ by unfold Addr.add; split <;> simp_all]
      have h2 := HC.out j hj
      rw [if_pos hj] at h2
      exact h2
theorem fill256_any (k : Int) (k0 : 0 ≤ k) (k1 : k < 4294967296) (w : World) :
    Calls Try.prog 14 #[.int .i64 256, .int .u32 k] w fun e w' => ∃ v, e = .returned v ∧ v.ownBlock = some w.heap.size ∧ Slc .u8 w' v 256 (fillB k) ∧ Below w.heap.size w w' := fill_any 256 (by decide) k k0 k1 w
end
section
open Go.ChangeShapes Go.WideShapes Go.ChangeAt Go.RowKit Go.Maps Go.Deep
set_option maxRecDepth 100000
theorem rmwrite_slc (p B : Nat) (g : Int → Int) (a : Int) (v : Value) (L : Nat) (bs : Nat → Int) (hL : L < 4294967296) (w : World) (hc : w.cell? ⟨p, 0, none⟩ = some (.map (some B))) (hm : RefMap w B 4294967296 g) (hpB : p ≠ B)
    (hs : Slc .u8 w v L bs) (ho : 0 < L → ∀ k, v.ownBlock = some k → k ≠ B) (hb0 : ∀ i, 0 ≤ bs i ∧ bs i < 256) :
    Calls Try.prog 21 #[.pointer (some ⟨p, 0, none⟩), .int .u32 a, v] w fun e w' => e = .returned (.tuple #[]) ∧ RefMap w' B 4294967296 (writeG g a bs L) ∧ But (· = B) w w' := by
  by_cases h0 : L = 0
  · subst h0
    have HM := Lib.hid hm
    clear ho hm
    obtain ⟨ad, cap, rfl⟩ := hs.len
    clear hs
    go_enter Try.func21, Try.ntmps21
    go_wp2_with fail
    go_loopw [6] (fun v wr => v = .int .i64 0 ∧ wr = w) (fun _ _ => 0)
    case atStart => exact ⟨rfl, rfl⟩
    case round =>
      obtain ⟨rfl, rfl⟩ := hrel
      go_wp2_with fail
      go_end0
      exact ⟨rfl, HM.out, But.refl _ _⟩
  · rcases hs with ⟨_, h⟩ | ⟨ad, cap, rfl, hl, hcell⟩
    · exact absurd h h0
    · exact (rmwrite_any p B 4294967296 g a ad L cap bs (Nat.lt_trans (show 4294967296 + L < 8589934592 by omega) (by decide)) hL w hc hm hpB (ho (by omega) _ rfl) hcell hb0).mono fun _ _ ⟨h1, h2, h3⟩ => ⟨h1, h2.few, h3⟩
def boxG (bs : Nat → Int) (L : Nat) (k : Int) : Int → Int := writeG (writeG (fun _ => 0) 20480 bs L) 36864 (fillB k) 256
def boxC (L : Nat) : Sg := ⟨16384, 4096 + L, false, false, true⟩
def boxD : Sg := ⟨36864, 256, true, true, false⟩
theorem boxC_ok (L : Nat) (hL : L < 2147483648) : (boxC L).ok := ⟨⟨by show (0 : Int) ≤ 16384; decide, by show (16384 : Int) < 4294967296; decide⟩, by show (0 : Int) ≤ 4096 + L; omega, by show (4096 + L : Int) < 4294967296; omega⟩
theorem boxD_ok : boxD.ok := by decide
set_option maxHeartbeats 4000000
theorem box_any (v : Value) (L : Nat) (bs : Nat → Int) (k : Int) (k0 : 0 ≤ k) (k1 : k < 4294967296) (hL : L < 2147483648) (hb0 : ∀ i, 0 ≤ bs i ∧ bs i < 256) (w : World) (hs : Slc .u8 w v L bs) :
    Calls Try.prog 11 #[v, .int .u32 k] w fun e w' => ∃ (b : Nat) (F : Nat → Prop), e = .returned (.pointer (some ⟨b, 0, none⟩)) ∧ RBus w' b F (boxG bs L k) (boxC L) boxD ∧ (∀ j, F j → w.heap.size ≤ j) ∧ Below w.heap.size w w' := by
  have HS := Lib.hid hs
  have HB0 := Lib.hid hb0
  have HCO := Lib.hid (boxC_ok L hL)
  obtain ⟨ad, cap, rfl⟩ := hs.len
  have hw : IntKind.u32.wrap (L : Int) = L := by rw [IntKind.wrap_u32]; omega
  have hw2 : (4096 + (L : Int)) % 4294967296 = 4096 + L := by omega
  clear hs hb0
  go_enter Try.func11, Try.ntmps11
  go_wp2_with fail
  ((with_reducible refine (rmnew_any _).mono ?_); rintro e w1 ⟨p, B, rfl, hp, hB, hpB, hpl, hc, hm, b1⟩)
  have HS1 := Lib.hid (HS.out.below b1)
  have HB1 := Lib.hid b1
  have HC1 := Lib.hid hc
  have HM1 := Lib.hid hm.few
  have HPB := Lib.hid hpB
  have HP := Lib.hid hp
  have HB := Lib.hid hB
  have HO := Lib.hid (fun (h : 0 < L) (j : Nat) (hj : Value.ownBlock (.slice ad L cap) = some j) => (show j ≠ B by have := HS.out.own_lt h j hj; omega))
  clear b1 hc hm hpB hp hB hpl
  go_wp2_with fail
  ((with_reducible refine (rmwrite_slc p B _ 20480 _ L bs (by omega) _ HC1.out HM1.out HPB.out HS1.out HO.out HB0.out).mono ?_); rintro e w2 ⟨rfl, hm, hbt⟩)
  have HM2 := Lib.hid hm
  have HBT := Lib.hid hbt
  have HC2 := Lib.hid (hbt.cell HC1.out HPB.out)
  clear hm hbt
  go_wp2_with fail
  ((with_reducible refine (fill256_any k k0 k1 _).mono ?_); rintro e w3 ⟨vf, rfl, hown, hsf, b3⟩)
  have HSF := Lib.hid hsf
  have HM3 := Lib.hid (HM2.out.but (F := fun _ => False) (But.of_below b3) (fun h => h))
  have HC3 := Lib.hid ((But.of_below (F := fun _ => False) b3).cell HC2.out (fun h => h))
  have HB3 := Lib.hid b3
  have HOF := Lib.hid (fun (_ : 0 < 256) (j : Nat) (hj : vf.ownBlock = some j) => (show j ≠ B by
    rw [hown] at hj
    injection hj with hj
    obtain ⟨D, h, _⟩ := HM2.out
    have := h.lt
    omega))
  obtain ⟨af, cf, rfl⟩ := hsf.len
  clear hsf b3 hown
  go_wp2_with fail
  ((with_reducible refine (rmwrite_slc p B _ 36864 _ 256 (fillB k) (by decide) _ HC3.out HM3.out HPB.out HSF.out HOF.out (fillB_ok k)).mono ?_); rintro e w4 ⟨rfl, hm, hbt⟩)
  have HM4 := Lib.hid hm
  have HC4 := Lib.hid (hbt.cell HC3.out HPB.out)
  have HB4 := Lib.hid (show Below w.heap.size w w4 from
    hbt.below ((HBT.out.below HB1.out (fun j hj => by have := HB.out; omega) HB1.out.size).trans (HB3.out.mono (Nat.le_trans HB1.out.size HBT.out.size))) (fun j hj => by have := HB.out; omega) (Nat.le_trans (Nat.le_trans HB1.out.size HBT.out.size) HB3.out.size))
  clear hm hbt
  go_wp2_with fail
  go_ret
  have hp4 : p < w4.heap.size := cell_lt HC4.out
  have hB4 : B < w4.heap.size := by obtain ⟨D, h, _⟩ := HM4.out; exact h.lt
  refine ⟨w4.heap.size, fun j => j = w4.heap.size ∨ j = p ∨ j = B, rfl, ⟨p, B, ?_, ?_, ?_, fun _ => Iff.rfl, by omega, by omega, HPB.out, HCO.out, boxD_ok⟩, fun j hj => ?_, below_last HB4.out _⟩
  · show (w4.heap.push _)[w4.heap.size]? = _
    simp
    rfl
  · rw [World.cell?_alloc_lt _ _ _ hp4]
    exact HC4.out
  · exact HM4.out.but (F := fun _ => False) (But.of_below (below_last (Below.refl _ _) _)) (fun h => h)
  · have := HB4.out.size
    have := HP.out
    have := HB.out
    rcases hj with rfl | rfl | rfl <;> omega
end
section
open Go.ChangeShapes Go.WideShapes Go.ChangeAt Go.RowKit
set_option maxRecDepth 100000
structure TwoB (w0 w : World) (b : Nat) (F : Nat → Prop) (g : Int → Int) (pg : Int → Bool) (rb : Nat) (R : Nat → Prop) (h : Int → Int) (c d : Sg) : Prop where
  own : BIn w0 w b F g pg c d
  ref : RBus w rb R h c d
  rown : ∀ k, R k → w0.heap.size ≤ k
  apart : ∀ k, F k → ¬ R k
variable {w0 w w' : World} {b rb : Nat} {F R : Nat → Prop} {g h : Int → Int} {pg : Int → Bool} {c d : Sg}
theorem TwoB.next (t : TwoB w0 w b F g pg rb R h c d) (hb : Below w.heap.size w w') : TwoB w0 w' b F g pg rb R h c d := ⟨t.own.next hb, t.ref.below hb, t.rown, t.apart⟩
theorem TwoB.low (t : TwoB w0 w b F g pg rb R h c d) : Below w0.heap.size w0 w := t.own.low
structure TwoM (w0 w : World) (p : Nat) (F : Nat → Prop) (g : Int → Int) (pg : Int → Bool) (rb : Nat) (R : Nat → Prop) (h : Int → Int) (c d : Sg) : Prop where
  own : MIn w0 w p F g pg
  ref : RBus w rb R h c d
  rown : ∀ k, R k → w0.heap.size ≤ k
  apart : ∀ k, F k → ¬ R k
theorem TwoM.next {p : Nat} (t : TwoM w0 w p F g pg rb R h c d) (hb : Below w.heap.size w w') : TwoM w0 w' p F g pg rb R h c d := ⟨t.own.next hb, t.ref.below hb, t.rown, t.apart⟩
theorem two_write {p : Nat} (t : TwoM w0 w p F g pg rb R h c d) (a : Int) (v : Value) (L : Nat) (bs : Nat → Int) (a0 : 0 ≤ a) (a1 : a < 4294967296) (hL : L < 2147483648) (hb : ∀ i, 0 ≤ bs i ∧ bs i < 256) (hs : Slc .u8 w v L bs) (hv : 0 < L → ∀ k, v.ownBlock = some k → ¬ F k) :
    Calls Try.prog 13 #[.pointer (some ⟨p, 0, none⟩), .int .u32 a, v] w fun e w' => ∃ F', e = .returned (.tuple #[]) ∧ TwoM w0 w' p F' (writeG g a bs L) (writeP pg a L) rb R h c d :=
  (min_write t.own a v L bs a0 a1 hL hb hs hv).mono fun _ _ ⟨F', he, hm, hF, hb⟩ => ⟨F', he, ⟨hm, t.ref.but hb (fun k hk hf => t.apart k hf hk), t.rown, fun k hk hr => (hF k hk).elim (fun hf => t.apart k hf hr) (fun hl => by have := t.ref.lt k hr; omega)⟩⟩
theorem two_new {p : Nat} (t : TwoM w0 w p F g pg rb R h c d) :
    Calls Try.prog 15 #[.pointer (some ⟨p, 0, none⟩), .agg (sgL c).toArray, .agg (sgL d).toArray] w fun e w' => ∃ (b : Nat) (F' : Nat → Prop), e = .returned (.pointer (some ⟨b, 0, none⟩)) ∧ TwoB w0 w' b F' g pg rb R h c d ∧ Below w.heap.size w w' := by
  have ho := t.ref
  obtain ⟨_, _, ho⟩ := ho
  exact (bnew_any p F g pg c d ho.ok.1 ho.ok.2 w t.own.mem).mono fun _ _ ⟨b, F', he, hF, hp, hb⟩ => ⟨b, F', he, ⟨⟨fun k hk => (hF k hk).elim (t.own.own k) (fun q => Nat.le_trans t.own.low.size q), hp, t.own.low.trans (hb.mono t.own.low.size)⟩, t.ref.below hb, t.rown, fun k hk hr => (hF k hk).elim (fun hf => t.apart k hf hr) (fun hl => by have := t.ref.lt k hr; omega)⟩, hb⟩
end
end Go.Proofs.Ytbbegbaaefgikaa
