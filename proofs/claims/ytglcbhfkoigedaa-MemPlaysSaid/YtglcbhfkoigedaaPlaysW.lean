/- Any script of bytes comes to just the document's memory. -/
import Derived.Test.YtglcbhfkoigedaaPlaysS
import Derived.Test.YtglcbhfkoigedaaClone
import Derived.Deep.RegionHeld3
import Derived.Deep.DeepCutAuto
import Derived.Deep.CutBlock
namespace Go.Proofs.Ytglcbhfkoigedaa
open Go.ChangeShapes Go.WideShapes Go.ChangeAt Go.RowKit

theorem rmwrite_nil (p : Nat) (a : Int) (A : Option Addr) (cap : Nat) (w : World) :
    Calls Try.prog 11 #[.pointer (some ⟨p, 0, none⟩), .int .u32 a, .slice A 0 cap] w fun e w' => e = .returned (.tuple #[]) ∧ w = w' := by
  go_enter Try.func11, Try.ntmps11
  go_wp2
  go_loop [6] (fun v => v = .int .i64 0) (fun _ => 0)
  case atStart => rfl
  case round =>
    subst hrel
    go_wp2
    go_end0
    exact ⟨rfl, rfl⟩
theorem ps_rwriteS {w0 w : World} {p : Nat} {v : Value} {F : Nat → Prop} {B n : Nat} {g gr : Int → Int} {ats : List Int} {pg : Int → Bool} {K : Addr → Value → Prop} {p2 : Nat} (h : PS w0 p v F B n g gr ats pg K w) (hp : K ⟨p2, 0, none⟩ (.map (some B))) (a : Int) (y : Value) (L : Nat) (bs : Nat → Int) (hn : n + L < maxLen) (hL : L < 4294967296) (hyB : 0 < L → ∀ k, y.ownBlock = some k → k ≠ B)
    (hs : Slc .u8 w y L bs) (hb0 : ∀ i, 0 ≤ bs i ∧ bs i < 256) :
    Calls Try.prog 11 #[.pointer (some ⟨p2, 0, none⟩), .int .u32 a, y] w fun e w' => e = .returned (.tuple #[]) ∧ PS w0 p v F B (n + L) g (writeG gr a bs L) ats pg K w' := by
  by_cases h0 : L = 0
  · subst h0
    obtain ⟨A, cap, rfl⟩ := hs.len
    exact (rmwrite_nil p2 a A cap w).mono fun _ _ ⟨he, hw⟩ => ⟨he, by subst hw; exact h⟩
  · rcases hs with ⟨_, h1⟩ | ⟨ad, cap, rfl, _, hc⟩
    · omega
    · exact ps_rwrite h hp a ad L cap bs hn hL (hyB (by omega) _ rfl) hc hb0
/-- the acts of a script -/
def ActsOk (w : World) (A : Option Addr) (L : Nat) : Prop := ∀ i, i < L → ∃ (ad : Addr) (wh at_ nn : Int) (bv : Value) (bl : Nat) (bb : Nat → Int), A = some ad ∧ ad.block < w.heap.size ∧
  w.cell? (ad.add (i * 4)) = some (.int .u8 wh) ∧ w.cell? (ad.add (i * 4 + 1)) = some (.int .u32 at_) ∧ w.cell? (ad.add (i * 4 + 2)) = some (.int .i64 nn) ∧ w.cell? (ad.add (i * 4 + 3)) = some bv ∧ Slc .u8 w bv bl bb ∧ bl ≤ maxLen ∧
  (0 ≤ wh ∧ wh < 256) ∧ (0 ≤ at_ ∧ at_ < 4294967296) ∧ (-9223372036854775808 ≤ nn ∧ nn ≤ 9223372036854775807) ∧ ∀ j, 0 ≤ bb j ∧ bb j < 256
theorem add_next (ad : Addr) (m j : Nat) (hj : 0 < j) : ad.add (m + j) = ⟨(ad.add m).block, (ad.add m).off + j, none⟩ := by
  unfold Addr.add
  rw [if_neg (by omega)]
  split
  · simp_all
  · simp [Nat.add_assoc]
/-- a script's act in a block of its own -/
def KX (b : Nat) (wh at_ nn : Int) (bv : Value) : Addr → Value → Prop := fun a x => (a = ⟨b, 0, none⟩ ∧ x = .int .u8 wh) ∨ (a = ⟨b, 1, none⟩ ∧ x = .int .u32 at_) ∨ (a = ⟨b, 2, none⟩ ∧ x = .int .i64 nn) ∨ (a = ⟨b, 3, none⟩ ∧ x = bv)
theorem kx_new (w : World) (wh at_ nn : Int) (bv : Value) (t : TypeId) : ∀ a x, KX w.heap.size wh at_ nn bv a x → a.block = w.heap.size ∧ (w.alloc (.cells #[.int .u8 wh, .int .u32 at_, .int .i64 nn, bv] t)).cell? a = some x := by
  intro a x h
  rcases h with ⟨rfl, rfl⟩ | ⟨rfl, rfl⟩ | ⟨rfl, rfl⟩ | ⟨rfl, rfl⟩ <;> exact ⟨rfl, by simp⟩
theorem new_one (w : World) (x : Value) (t : TypeId) : ∀ i, i < 1 → (w.alloc (.cells #[x] t)).cell? ((⟨w.heap.size, 0, none⟩ : Addr).add i) = some x := by
  intro i hi
  obtain rfl : i = 0 := by omega
  simp [Addr.add]
theorem one_u32 (a : Int) : ∀ u ∈ [Value.int .u32 a], u.oneCell' = true := by
  intro u hu
  simp at hu
  subst hu
  rfl
theorem writeG_one (g : Int → Int) (a x : Int) (a0 : 0 ≤ a) (a1 : a < 4294967296) : writeG g a (fun _ => x) 1 = setG g a x := by
  unfold writeG
  rw [show place a 0 = a by unfold place; omega]
  rfl
theorem writeP_all (l : List Int) (a : Int) : ∀ L : Nat, writeP (pgsL l) a L = pgsL (l ++ (List.range L).map (place a))
  | 0 => by simp [writeP]
  | L + 1 => by
    rw [List.range_succ, List.map_append, ← List.append_assoc, List.map_cons, List.map_nil, pgsL_snoc, ← writeP_all l a L]
    rfl
theorem place_ok (a : Int) (j : Nat) : 0 ≤ place a j ∧ place a j < 4294967296 := by unfold place; omega
def KB (p2 B : Nat) : Addr → Value → Prop := fun a x => a = ⟨p2, 0, none⟩ ∧ x = .map (some B)
theorem ps_held_read (p : Nat) (w0 : World) (v : Value) (F : Nat → Prop) (B n : Nat) (g : Int → Int) (ats : List Int) (pg : Int → Bool) (p2 : Nat) (a m : Int) (a0 : 0 ≤ a) (a1 : a < 4294967296) (hg : ∀ a, 0 ≤ g a ∧ g a < 256) : ∀ u, PS w0 p v F B n g g ats pg (KB p2 B) u →
    Calls Try.prog 15 #[.pointer (some ⟨p, 0, none⟩), .int .u32 a, .int .i64 m] u fun e u' => ∃ y, e = .returned y ∧ (∀ u'', Below u'.heap.size u' u'' → (convert 30 9 y).run Try.prog u'' = .ok (.string (strOf (readN m) (fun i => g (place a i)))) u'') ∧ PS w0 p v F B n g g ats pg (KB p2 B) u' ∧ Below u.heap.size u u' :=
  fun _ hu => (ps_read hu a m a0 a1).mono fun _ _ ⟨y, he, hs, hp, hb⟩ => ⟨y, he, fun _ hb => (hs.below hb).str (fun i _ => hg (place a i)), hp, hb⟩
theorem ps_held_rread (p : Nat) (w0 : World) (v : Value) (F : Nat → Prop) (B n : Nat) (g : Int → Int) (ats : List Int) (pg : Int → Bool) (p2 : Nat) (a m : Int) (hg : ∀ a, 0 ≤ g a ∧ g a < 256) : ∀ u, PS w0 p v F B n g g ats pg (KB p2 B) u →
    Calls Try.prog 13 #[.pointer (some ⟨p2, 0, none⟩), .int .u32 a, .int .i64 m] u fun e u' => ∃ y, e = .returned y ∧ (convert 30 9 y).run Try.prog u' = .ok (.string (strOf (readN m) (fun i => g (place a i)))) u' ∧ PS w0 p v F B n g g ats pg (KB p2 B) u' ∧ Below u.heap.size u u' :=
  fun _ hu => (ps_rread hu ⟨rfl, rfl⟩ a m).mono fun _ _ ⟨blk, he, hc, hp, hb⟩ => ⟨_, he, Slc.str (.inr ⟨_, _, rfl, Nat.le_refl _, fun i hi => by have := hc i hi; rwa [show (⟨blk, 0, none⟩ : Addr).add i = ⟨blk, i, none⟩ by unfold Addr.add; split <;> simp_all]⟩) (fun i _ => hg (place a i)), hp, hb⟩
set_option maxRecDepth 100000 in
set_option maxHeartbeats 8000000 in
theorem memplays_walk (A : Option Addr) (L cap : Nat) (w : World) (hA : ActsOk w A L) (hLm : L ≤ maxLen) :
    Calls Try.prog 3 #[.slice A L cap] w fun e w' => e = .returned (.bool true) ∧ Below w.heap.size w w' := by
  unfold maxLen at hLm
  have HA := Lib.hid hA
  obtain ⟨i0, hi, hz0, hz1, hz2⟩ := info_parts u32_info
  clear hA
  go_enter Try.func3, Try.ntmps3
  go_wp2_with fail
  refine (known6_any _).mono ?_
  rintro e w1 ⟨rfl, B1⟩
  by_cases hbig : 60 < L
  · have hd : decide ((60 : Int) < (L : Int)) = true := decide_eq_true (by omega)
    go_wp2
    go_ret
    exact ⟨rfl, B1⟩
  have hd : decide ((60 : Int) < (L : Int)) = false := decide_eq_false (by omega)
  go_wp2_with fail
  refine (min_new (w0 := w) _ B1).mono ?_
  rintro e w2 ⟨p, F, rfl, M2, _, _⟩
  go_wp2_with fail
  refine (rmnew_any _).mono ?_
  rintro e w3 ⟨p2, B, rfl, hp2, hB2, hne, hp2l, hc2, hm2, hb2⟩
  have P0 : PS w p (.slice none 0 0) F B 0 (fun _ => 0) (fun _ => 0) [] (pgsL []) (KB p2 B) w3 := by
    refine ⟨M2.next hb2, hm2, ⟨Nat.le_trans M2.low.size hB2, fun hf => by have := M2.mem.lt B hf; omega⟩, World.ownsRow_nil _ _ _ _, (fun j hj => by cases hj), fun a x hax => ?_⟩
    obtain ⟨rfl, rfl⟩ := hax
    exact ⟨hc2, fun hf => by have := M2.mem.lt p2 hf; omega, hne, by simp [Value.ownBlock]⟩
  clear B1 M2 hp2 hB2 hp2l hc2 hm2 hb2
  have hL60 : L ≤ 60 := by omega
  clear hbig hd
  go_wp2
  go_loopw [5, 6] (fun v i wr => ∃ (k n : Nat) (F : Nat → Prop) (g : Int → Int) (ats : List Int), k ≤ L ∧ i = .int .i64 k ∧ n ≤ 100 * k ∧ ats.length ≤ 100 * k ∧ (∀ a ∈ ats, 0 ≤ a ∧ a < 4294967296) ∧ PS w p v F B n g g ats (pgsL ats) (KB p2 B) wr) (fun _ i _ => L - (intOf i).toNat)
  case atStart => exact ⟨0, 0, F, _, [], by omega, rfl, by omega, by simp, by simp, P0⟩
  case round =>
    obtain ⟨k, n, F', g, ats, hk, rfl, hn, hal, hab, hP⟩ := hrel
    obtain ⟨wo, rfl⟩ : ∃ wo : World, wo = wr := ⟨_, rfl⟩
    clear P0
    by_cases hlt : k < L
    · have hd : decide ((k : Int) < (L : Int)) = true := decide_eq_true (by omega)
      obtain ⟨ad, wh, at_, nn, bv, bl, bb, hAA, hadl, c0, c1, c2, c3, hs, hbl, ⟨wh0, wh1⟩, ⟨at0, at1⟩, ⟨nn0, nn1⟩, hbb⟩ := HA.out k hlt
      have hlow := hP.mem.low
      have d0 := (hlow.cell (p := ad.add (k * 4)) (by rw [add_block]; exact hadl)).trans c0
      have d1 := (hlow.cell (p := ad.add (k * 4 + 1)) (by rw [add_block]; exact hadl)).trans c1
      have d2 := (hlow.cell (p := ad.add (k * 4 + 2)) (by rw [add_block]; exact hadl)).trans c2
      have d3 := (hlow.cell (p := ad.add (k * 4 + 3)) (by rw [add_block]; exact hadl)).trans c3
      rw [add_next _ _ _ (by decide)] at d1 d2 d3
      subst hAA
      clear c0 c1 c2 c3 hlow
      obtain ⟨bA, bc, rfl⟩ := hs.len
      unfold maxLen at hbl
      by_cases hb100 : 100 < bl
      · have hd1 : decide ((100 : Int) < (bl : Int)) = true := decide_eq_true (by omega)
        go_wp2
        go_ret
        exact ⟨rfl, below_last hP.mem.low _⟩
      have hd1 : decide ((100 : Int) < (bl : Int)) = false := decide_eq_false (by omega)
      go_upto_if 37 with (fail)
      have hX := hP.know (.cells #[.int .u8 wh, .int .u32 at_, .int .i64 nn, .slice bA bl bc] 32) _ (kx_new wo wh at_ nn (.slice bA bl bc) _)
      have hXs := (hs.below hP.mem.low).below (below_last (Below.refl _ wo) (.cells #[.int .u8 wh, .int .u32 at_, .int .i64 nn, .slice bA bl bc] 32))
      have hXa := fun (h : 0 < bl) => hs.own_lt h
      generalize hbx : wo.heap.size = bx at *
      generalize wo.alloc (.cells #[.int .u8 wh, .int .u32 at_, .int .i64 nn, .slice bA bl bc] 32) = wx at *
      have HS := Lib.hid hs
      clear hbx d0 d1 d2 d3 hs hP
      have c0 := (hX.kn ⟨bx, 0, none⟩ (.int .u8 wh) (.inr (.inl ⟨rfl, rfl⟩))).1
      have c1 := (hX.kn ⟨bx, 1, none⟩ (.int .u32 at_) (.inr (.inr (.inl ⟨rfl, rfl⟩)))).1
      have c2 := (hX.kn ⟨bx, 2, none⟩ (.int .i64 nn) (.inr (.inr (.inr (.inl ⟨rfl, rfl⟩))))).1
      have c3 := (hX.kn ⟨bx, 3, none⟩ (.slice bA bl bc) (.inr (.inr (.inr (.inr ⟨rfl, rfl⟩))))).1
      go_cut [8] (fun s8 wy => ∃ a : Int, 0 ≤ a ∧ a < 4294967296 ∧ s8 = .int .u32 a ∧ wx = wy)
      case first =>
        go_wp2
        all_goals
          go_meet
          first | exact ⟨_, at0, at1, rfl, rfl⟩ | exact ⟨_, by omega, by omega, rfl, rfl⟩
      case rest =>
      obtain ⟨a, a0, a1, rfl, rfl⟩ := hcut
      go_upto_if 46 with (fail)
      go_cut [9] (fun s9 wy => ∃ m : Int, -9223372036854775808 ≤ m ∧ m ≤ 9223372036854775807 ∧ s9 = .int .i64 m ∧ wx = wy)
      case first =>
        have HPl : ∀ u, Calls Try.prog 9 #[.int .i64 nn, .int .i64 50] u fun e w' => e = .returned (.int .i64 (nn % 50)) ∧ u = w' := fun u => place_any nn 50 (by decide) (by decide) nn0 nn1 u
        go_wp2_with (go_at_call 9; refine (HPl _).mono ?_; rintro e w' ⟨rfl, rfl⟩)
        all_goals
          go_meet
          first | exact ⟨_, nn0, nn1, rfl, rfl⟩ | exact ⟨_, by omega, by omega, rfl, rfl⟩
      case rest =>
      obtain ⟨m, m0, m1, rfl, rfl⟩ := hcut
      go_upto_block 2 with (fail)
      go_cut [5, 52] (fun s5 _ wy => ∃ (n : Nat) (F : Nat → Prop) (g : Int → Int) (ats : List Int), n ≤ 100 * (k + 1) ∧ ats.length ≤ 100 * (k + 1) ∧ (∀ a ∈ ats, 0 ≤ a ∧ a < 4294967296) ∧ PS w p s5 F B n g g ats (pgsL ats) (KB p2 B) wy)
      case first =>
        have hq : wh % 8 = 0 ∨ wh % 8 = 1 ∨ wh % 8 = 2 ∨ wh % 8 = 3 ∨ wh % 8 = 4 ∨ wh % 8 = 5 ∨ (wh % 8 == 0) = false ∧ (wh % 8 == 1) = false ∧ (wh % 8 == 2) = false ∧ (wh % 8 == 3) = false ∧ (wh % 8 == 4) = false ∧ (wh % 8 == 5) = false := by simp; omega
        rcases hq with hq | hq | hq | hq | hq | hq | ⟨q0, q1, q2, q3, q4, q5⟩
        iterate 2
          · go_wp2_with fail
            refine (ps_set hX a wh a0 a1 wh0 wh1).mono ?_
            rintro e wa ⟨Fa, rfl, X1⟩
            have e0 := (X1.kn ⟨bx, 0, none⟩ (.int .u8 wh) (.inr (.inl ⟨rfl, rfl⟩))).1
            go_wp2_with fail
            have X2 := X1.below (below_last (Below.refl _ wa) (.cells #[.int .u8 wh] 5))
            refine (ps_rwrite X2 (.inl ⟨rfl, rfl⟩) a ⟨wa.heap.size, 0, none⟩ 1 1 (fun _ => wh) (by unfold maxLen; omega) (by omega) (by obtain ⟨_, f2, _⟩ := X1.fresh wa.heap.size (Nat.le_refl _); exact f2) (new_one wa (.int .u8 wh) _) (fun _ => ⟨wh0, wh1⟩)).mono ?_
            rintro e wb ⟨rfl, X3⟩
            have X4 := X3.below (below_last (Below.refl _ wb) (.cells #[.int .u32 a] 29))
            go_wp2_with (at_builtin; refine wpList_append_own_at _ rfl (.tmp 80) (.tmp 82) _ rfl w.heap.size 29 i0 (.int .u32 0) 1 4 Try.underlying28 hi hz0 hz1 hz2 rfl (by decide) u5 ats.length (ats.map (.int .u32)) rfl X4.own ⟨wb.heap.size, 0, none⟩ 1 1 [.int .u32 a] rfl rfl (cell_one_new _ _ _) (one_u32 a) (by unfold maxLen; omega) (by omega) X4.mem.low.size ?_; intro v' wd hown hgrow _ hat)
            have X5 := X4.app hown hgrow hat
            rw [← pgsL_snoc, writeG_one _ _ _ a0 a1] at X5
            have X6 := X5.less (KB p2 B) (fun _ _ h => .inl h)
            clear hown hgrow hat X1 X2 X3 X4 X5
            go_meet
            exact ⟨n + 1, Fa, _, ats ++ [a], by omega, by simp; omega, by intro b hb; rw [List.mem_append] at hb; rcases hb with hb | hb; exact hab b hb; simp at hb; subst hb; exact ⟨a0, a1⟩, X6⟩
        iterate 2
          · go_wp2_with fail
            refine (ps_get hX a a0 a1).mono ?_
            rintro e wa ⟨rfl, X1⟩
            go_wp2_with fail
            refine (ps_rread X1 (.inl ⟨rfl, rfl⟩) a 1).mono ?_
            rintro e wb ⟨blk, rfl, hcl, X2, _⟩
            have hc0 := hcl 0 (by decide)
            rw [show place a 0 = a by unfold place; omega] at hc0
            clear hcl
            rw [show readN 1 = 1 from rfl]
            go_wp2_with fail
            have X6 := X2.less (KB p2 B) (fun _ _ h => .inl h)
            clear X1 X2
            go_meet
            exact ⟨n, F', _, ats, by omega, by omega, hab, X6⟩
        iterate 2
          · go_wp2_with fail
            refine (ps_write hX a _ bl bb a0 a1 (by omega) hbb hXs (fun h j hj hf => by have := hXa h j hj; have := hX.mem.own j hf; omega)).mono ?_
            rintro e wa ⟨Fa, rfl, X1⟩
            have e3 := (X1.kn ⟨bx, 3, none⟩ (.slice bA bl bc) (.inr (.inr (.inr (.inr ⟨rfl, rfl⟩))))).1
            go_wp2_with fail
            refine (ps_rwriteS X1 (.inl ⟨rfl, rfl⟩) a _ bl bb (by unfold maxLen; omega) (by omega) (fun h j hj e => by have := hXa h j hj; have := X1.hB.1; omega) (HS.out.below X1.mem.low) hbb).mono ?_
            rintro e wb ⟨rfl, X2⟩
            clear e3 X1 c0 c1 c2 c3
            go_wp2_with fail
            go_loopw [5, 10] (fun v x wr => ∃ j : Nat, j ≤ bl ∧ x = .int .i64 j ∧ PS w p v Fa B (n + bl) (writeG g a bb bl) (writeG g a bb bl) (ats ++ (List.range j).map (place a)) (writeP (pgsL ats) a bl) (fun a x => KB p2 B a x ∨ KX bx wh at_ nn (.slice bA bl bc) a x) wr) (fun _ x _ => bl - (intOf x).toNat)
            case atStart => exact ⟨0, by omega, rfl, by simpa using X2⟩
            case round =>
              obtain ⟨j, hj, rfl, Xj⟩ := hrel
              have f3 := (Xj.kn ⟨bx, 3, none⟩ (.slice bA bl bc) (.inr (.inr (.inr (.inr ⟨rfl, rfl⟩))))).1
              obtain ⟨wq, rfl⟩ : ∃ wq : World, wq = wr := ⟨_, rfl⟩
              clear X2
              by_cases hjl : j < bl
              · have hdj : decide ((j : Int) < (bl : Int)) = true := decide_eq_true (by omega)
                have Xj' := Xj.below (below_last (Below.refl _ wq) (.cells #[.int .u32 (place a j)] 29))
                go_wp2_with (at_builtin; refine wpList_append_own_at _ rfl (.tmp 116) (.tmp 121) _ rfl w.heap.size 29 i0 (.int .u32 0) 1 4 Try.underlying28 hi hz0 hz1 hz2 rfl (by decide) u5 (ats ++ (List.range j).map (place a)).length ((ats ++ (List.range j).map (place a)).map (.int .u32)) rfl Xj'.own ⟨wq.heap.size, 0, none⟩ 1 1 [.int .u32 (place a j)] rfl rfl (cell_one_new _ _ _) (one_u32 _) (by unfold maxLen; simp; omega) (by simp; omega) Xj'.mem.low.size ?_; intro v' wd hown hgrow _ hat)
                have X5 := Xj'.app hown hgrow hat
                rw [List.append_assoc] at X5
                clear hown hgrow hat Xj Xj'
                go_roundw
                case rel => exact ⟨j + 1, by omega, by go_num, by rw [List.range_succ, List.map_append]; exact X5⟩
                case measure => simp [intOf]; omega
              · obtain rfl : j = bl := by omega
                have hdj : decide ((j : Int) < (j : Int)) = false := by simp
                rw [writeP_all] at Xj
                have X6 := Xj.less (KB p2 B) (fun _ _ h => .inl h)
                have hab3 : ∀ b ∈ ats ++ (List.range j).map (place a), 0 ≤ b ∧ b < 4294967296 := by
                  intro b hb
                  rw [List.mem_append] at hb
                  rcases hb with hb | hb
                  · exact hab b hb
                  · obtain ⟨i, _, rfl⟩ := List.mem_map.1 hb
                    exact place_ok a i
                have HB3 := Lib.hid hab3
                clear hab3
                go_wp2_with fail
                clear Xj
                go_meet
                exact ⟨n + j, Fa, _, _, by omega, by simp; omega, HB3.out, X6⟩
        · go_upto_if 54 with (fail)
          go_cut [9] (fun s9 wy => ∃ m : Int, -9223372036854775808 ≤ m ∧ m ≤ 3000 ∧ s9 = .int .i64 m ∧ wx = wy)
          case first =>
            go_wp2
            all_goals
              go_meet
              first | exact ⟨_, by omega, by omega, rfl, rfl⟩
          case rest =>
          obtain ⟨m, m0, m1, rfl, rfl⟩ := hcut
          clear c0 c1 c2 c3 hXs
          go_wp2_with fail
          have X0 := (hX.less (KB p2 B) (fun _ _ h => .inl h)).drew
          have hgb := hX.mem.mem.byte
          clear hX
          have rd1 := ps_held_read p w u5 F' B n g ats (pgsL ats) p2 a m a0 a1 hgb
          have rd2 := ps_held_rread p w u5 F' B n g ats (pgsL ats) p2 a m hgb
          go_region_held (fun w' => PS w p u5 F' B n g g ats (pgsL ats) (KB p2 B) w') (first | exact X0 | assumption | go_keep)
            (first | (go_at_call 15; ((with_reducible refine (rd1 _ ?_).mono ?_); (first | assumption | simp [*]); rintro e w5 ⟨v5, rfl, cv5, hS5, _⟩; have cv5' := cv5 _ (Below.refl _ _); have CV5 := Lib.hid cv5; clear cv5)) | (go_at_call 13; ((with_reducible refine (rd2 _ ?_).mono ?_); (first | assumption | simp [*]); rintro e w6 ⟨v6, rfl, cv6, hS6, hb6⟩; have cv56 := CV5.out _ hb6)))
          all_goals
            go_wp2_with fail
            go_meet
            exact ⟨n, F', _, ats, by omega, by omega, hab, by first | exact hS6 | exact hHeld⟩
      case rest =>
      obtain ⟨n2, F2, g2, ats2, hn2, hal2, hab2, XR⟩ := hcut
      clear c0 c1 c2 c3 hX
      go_wp2_with fail
      refine (ps_pages XR).mono ?_
      rintro e wa ⟨y, l, rfl, hsl, hpg, X1⟩
      go_wp2_with fail
      refine (rpages_any _ _ ats2 hab2 (by omega) _ (own_slc X1.own)).mono ?_
      rintro e wb ⟨u, l2, rfl, hs2, hpg2, hl2, hb2⟩
      obtain rfl := isPages_same hpg hpg2
      have hsl' := hsl.below hb2
      have X2 := X1.below hb2
      clear hsl hpg hpg2 X1 XR hb2
      go_wp2_with fail
      refine (words_any _ _ _ _ (by omega) _ hsl' hs2).mono ?_
      rintro e wc ⟨rfl, hb3⟩
      have X3 := X2.below hb3
      clear hsl' hs2 hb3 X2
      go_wp2_with fail
      go_roundw
      case rel => exact ⟨k + 1, n2, F2, g2, ats2, by omega, by go_num, hn2, hal2, hab2, X3⟩
      case measure => simp [intOf]; omega
    · obtain rfl : k = L := by omega
      have hd : decide ((k : Int) < (k : Int)) = false := by simp
      go_wp2_with fail
      refine (mclone_any p F' g (pgsL ats) _ hP.mem.mem).mono ?_
      rintro e wa ⟨q, Fq, rfl, hFq, hq, hb1⟩
      go_wp2_with fail
      refine (mset_any q Fq g (pgsL ats) 77 200 (by decide) (by decide) (by decide) (by decide) _ hq).mono ?_
      rintro e wb ⟨Fr, rfl, hFr, hr, hb2⟩
      have X0 := (hP.below (hb2.below hb1 hFq hb1.size)).drew
      have hgb := hP.mem.mem.byte
      have hr0 := hr.but (F := Fr) (G := fun _ => False) ((But.refl _ wb).drew) (fun _ _ h => h)
      clear hb1 hb2 hq hFq hFr hr hP
      go_wp2_with fail
      have rd1 := ps_held_read p w u5 F' B n g ats (pgsL ats) p2 0 100 (by decide) (by decide) hgb
      have rd2 := ps_held_rread p w u5 F' B n g ats (pgsL ats) p2 0 100 hgb
      have hS0 : PS w p u5 F' B n g g ats (pgsL ats) (KB p2 B) wb.drew ∧ PMem wb.drew q Fr (setG g 77 200) (setP (pgsL ats) 77) := ⟨X0, hr0⟩
      have rA : ∀ u, (PS w p u5 F' B n g g ats (pgsL ats) (KB p2 B) u ∧ PMem u q Fr (setG g 77 200) (setP (pgsL ats) 77)) → Calls Try.prog 15 #[.pointer (some ⟨p, 0, none⟩), .int .u32 0, .int .i64 100] u fun e u' => ∃ y, e = .returned y ∧ (∀ u'', Below u'.heap.size u' u'' → (convert 30 9 y).run Try.prog u'' = .ok (.string (strOf (readN 100) (fun i => g (place 0 i)))) u'') ∧ (PS w p u5 F' B n g g ats (pgsL ats) (KB p2 B) u' ∧ PMem u' q Fr (setG g 77 200) (setP (pgsL ats) 77)) :=
        fun u hu => (rd1 u hu.1).mono fun _ _ ⟨y, he, hc, hp, hb⟩ => ⟨y, he, hc, hp, hu.2.but (G := fun _ => False) (But.of_below hb) (fun _ _ h => h)⟩
      have rB : ∀ u, (PS w p u5 F' B n g g ats (pgsL ats) (KB p2 B) u ∧ PMem u q Fr (setG g 77 200) (setP (pgsL ats) 77)) → Calls Try.prog 13 #[.pointer (some ⟨p2, 0, none⟩), .int .u32 0, .int .i64 100] u fun e u' => ∃ y, e = .returned y ∧ (convert 30 9 y).run Try.prog u' = .ok (.string (strOf (readN 100) (fun i => g (place 0 i)))) u' ∧ (PS w p u5 F' B n g g ats (pgsL ats) (KB p2 B) u' ∧ PMem u' q Fr (setG g 77 200) (setP (pgsL ats) 77)) ∧ Below u.heap.size u u' :=
        fun u hu => (rd2 u hu.1).mono fun _ _ ⟨y, he, hc, hp, hb⟩ => ⟨y, he, hc, ⟨hp, hu.2.but (G := fun _ => False) (But.of_below hb) (fun _ _ h => h)⟩, hb⟩
      have rC : ∀ u, (PS w p u5 F' B n g g ats (pgsL ats) (KB p2 B) u ∧ PMem u q Fr (setG g 77 200) (setP (pgsL ats) 77)) → Calls Try.prog 12 #[.pointer (some ⟨q, 0, none⟩), .int .u32 77] u fun e u' => e = .returned (.int .u8 200) ∧ (PS w p u5 F' B n g g ats (pgsL ats) (KB p2 B) u' ∧ PMem u' q Fr (setG g 77 200) (setP (pgsL ats) 77)) ∧ Below u.heap.size u u' :=
        fun u hu => (mget_any q Fr _ _ 77 (by decide) (by decide) u hu.2).mono fun _ _ ⟨he, hb⟩ => ⟨by rw [he]; simp [setG], ⟨hu.1.below hb, hu.2.but (G := fun _ => False) (But.of_below hb) (fun _ _ h => h)⟩, hb⟩
      clear rd1 rd2 X0 hr0 hgb
      go_region_held (fun w' => PS w p u5 F' B n g g ats (pgsL ats) (KB p2 B) w' ∧ PMem w' q Fr (setG g 77 200) (setP (pgsL ats) 77)) (first | exact hS0 | assumption | go_keep)
        (first | (go_at_call 15; ((with_reducible refine (rA _ ?_).mono ?_); (first | assumption | simp [*]); rintro e w5 ⟨v5, rfl, cv5, hS5⟩; have cv5' := cv5 _ (Below.refl _ _); have CV5 := Lib.hid cv5; clear cv5)) | (go_at_call 13; ((with_reducible refine (rB _ ?_).mono ?_); (first | assumption | simp [*]); rintro e w6 ⟨v6, rfl, cv6, hS6, hb6⟩; have cv56 := CV5.out _ hb6)) | (go_at_call 12; ((with_reducible refine (rC _ ?_).mono ?_); (first | assumption | simp [*]); rintro e w7 ⟨rfl, hS7, hb7⟩)))
      all_goals
        go_wp2_with fail
        go_ret
        exact ⟨by simp, by first | exact hS7.1.mem.low | exact hHeld.1.mem.low⟩
end Go.Proofs.Ytglcbhfkoigedaa
