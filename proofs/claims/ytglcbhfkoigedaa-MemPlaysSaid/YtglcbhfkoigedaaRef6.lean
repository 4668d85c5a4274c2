/- The document's own memory (package salternref6): bytes that were set, in a map. -/
import Derived.Test.YtglcbhfkoigedaaRows
import Derived.Test.YtglcbhfkoigedaaOwn
import Derived.ProofKit
import Derived.OpenShut
import Derived.BigRegion
import Derived.Lib.Hide
import Derived.WalkLawsBesides
import Derived.Deep.OwnRows
namespace Go.Proofs.Ytglcbhfkoigedaa
open Go.ChangeShapes Go.WideShapes Go.ChangeAt Go.RowKit Go.Maps Go.Deep

theorem key_u32 : Keyed Try.prog 29 := int_keyed Try.underlying29
theorem zero_u8 (w : World) : (zeroValue 5).run Try.prog w = .ok (.int .u8 0) w := by kernel_rfl
theorem wf_u32 (a : Int) (h0 : 0 ≤ a) (h1 : a < 4294967296) : (Lit.int .u32 a).wf = true := by
  simp only [Lit.wf, Bool.and_eq_true, decide_eq_true_eq]
  have e1 : IntKind.u32.min = 0 := by decide
  have e2 : IntKind.u32.max = 4294967295 := by decide
  omega
theorem wf_u8 (a : Int) (h0 : 0 ≤ a) (h1 : a < 256) : (Lit.int .u8 a).wf = true := by
  simp only [Lit.wf, Bool.and_eq_true, decide_eq_true_eq]
  have e1 : IntKind.u8.min = 0 := by decide
  have e2 : IntKind.u8.max = 255 := by decide
  omega
/-- Block B is a map of at most n entries in which place a has the byte g a. -/
def RefMap (w : World) (B n : Nat) (g : Int → Int) : Prop :=
  ∃ D : DataW Unit, w.ownsMap Try.prog 29 (plainElem Try.prog 5) B n D ∧ (∀ a, 0 ≤ a → a < 4294967296 → D.atKey (.int .u32 a) (.lit (.int .u8 0)) = .lit (.int .u8 (g a))) ∧ IsMap D ∧ ∀ a, 0 ≤ g a ∧ g a < 256
theorem RefMap.but {F : Nat → Prop} {w w' : World} {B n : Nat} {g : Int → Int} (h : RefMap w B n g) (hb : But F w w') (hn : ¬ F B) : RefMap w' B n g := by
  obtain ⟨D, hm, r⟩ := h
  exact ⟨D, hb.owns hm hn, r⟩
theorem RefMap.made (w : World) : RefMap (w.alloc (.map #[] 0)) w.heap.size 0 (fun _ => 0) :=
  ⟨.map [], World.ownsMap_made _ _ _ _, fun _ _ _ => rfl, isMap_empty, fun _ => ⟨Int.le_refl 0, by show (0 : Int) < 256; omega⟩⟩
def setG (g : Int → Int) (a v : Int) : Int → Int := fun b => if b = a then v else g b
/-- A store into the map. -/
theorem RefMap.put {w : World} {B n : Nat} {g : Int → Int} (h : RefMap w B n g) (hn : n < maxLen) (a v : Int) (a0 : 0 ≤ a) (a1 : a < 4294967296) (v0 : 0 ≤ v) (v1 : v < 256) :
    ∃ w', (Instr.mapUpdate 49 (.map (some B)) (.int .u32 a) (.int .u8 v)).run Try.prog w = .ok () w' ∧ RefMap w' B (n + 1) (setG g a v) ∧ But (· = B) w w' := by
  obtain ⟨D, hm, hr, hI, hg⟩ := h
  have hk : keyOf Try.prog 29 (.int .u32 a) = some (.int .u32 a) := keyOf_int_mk Try.underlying29 (wf_u32 a a0 a1)
  obtain ⟨w', hrun, hm', hgr⟩ := hm.update key_u32 Try.underlying49 hn hk (plainElem_int Try.underlying5 (wf_u8 v v0 v1))
  refine ⟨w', hrun, ⟨_, hm', fun b b0 b1 => ?_, hI.put _ _, fun b => ?_⟩, But.of_grown hgr⟩
  · unfold setG
    by_cases hb : b = a
    · subst hb
      rw [if_pos rfl]
      exact atKey_put_same hI (by simp [WideAt.IsKeyLit]) _ _
    · rw [if_neg hb, atKey_put_other (by simpa using hb) _ _]
      exact hr b b0 b1
  · unfold setG
    split
    · exact ⟨v0, v1⟩
    · exact hg b
/-- What the map has. -/
theorem RefMap.get {w : World} {B n : Nat} {g : Int → Int} (h : RefMap w B n g) (a : Int) (a0 : 0 ≤ a) (a1 : a < 4294967296) :
    (Instr.lookup 49 (.map (some B)) (.int .u32 a) false).run Try.prog w = .ok (.int .u8 (g a)) w := by
  obtain ⟨D, hm, hr, hI, hg⟩ := h
  have hk : keyOf Try.prog 29 (.int .u32 a) = some (.int .u32 a) := keyOf_int_mk Try.underlying29 (wf_u32 a a0 a1)
  obtain ⟨c, hrun, hat, hwc⟩ := hm.lookup_int key_u32 Try.underlying49 Try.underlying5 (zero_u8 _) hk
  rw [hr a a0 a1] at hat
  injection hat with hat
  injection hat with _ hat
  rw [hrun, hat]
theorem rmnew_any (w : World) : Calls Try.prog 8 #[] w fun e w' => ∃ p B, e = .returned (.pointer (some ⟨p, 0, none⟩)) ∧ w.heap.size ≤ p ∧ w.heap.size ≤ B ∧ p ≠ B ∧ p < w'.heap.size ∧ w'.cell? ⟨p, 0, none⟩ = some (.map (some B)) ∧ RefMap w' B 0 (fun _ => 0) ∧ Below w.heap.size w w' := by
  have hmm := @run_makeMap Try.prog
  go_enter Try.func8, Try.ntmps8
  go_wp2
  go_ret
  refine ⟨w.heap.size + 1, w.heap.size, by simp, by omega, by omega, by omega, by simp, by simp, (RefMap.made w).but (F := fun _ => False) ((But.refl _ _).alloc _) (by simp), below_last (below_last (Below.refl _ _) _) _⟩
theorem info_u8 : (Try.prog.info? 5).map (fun i => (i.zero, i.size, i.bytes)) = some (some (.int .u8 0), 1, 1) := by kernel_rfl
/-- how many bytes a reading has -/
def readN (m : Int) : Nat := if m < 0 then 0 else if 1048576 < m then 1048576 else m.toNat
theorem readN_le (m : Int) : readN m ≤ 1048576 := by unfold readN; split <;> (try split) <;> omega
def place (a : Int) (i : Nat) : Int := (a + i) % 4294967296
attribute [local go_sem] isSome_setCell
set_option maxHeartbeats 2000000 in
theorem rmread_any (p B n : Nat) (g : Int → Int) (a m : Int) (w : World) (hc : w.cell? ⟨p, 0, none⟩ = some (.map (some B))) (hm : RefMap w B n g) :
    Calls Try.prog 13 #[.pointer (some ⟨p, 0, none⟩), .int .u32 a, .int .i64 m] w fun e w' => ∃ blk, e = .returned (.slice (some ⟨blk, 0, none⟩) (readN m) (readN m)) ∧ w.heap.size ≤ blk ∧ blk < w'.heap.size ∧ (∀ i, i < readN m → w'.cell? ⟨blk, i, none⟩ = some (.int .u8 (g (place a i)))) ∧ Below w.heap.size w w' := by
  have hmk := fun (N : Nat) (hN : N ≤ 1048576) => run_make_row' (P := Try.prog) 30 5 (.int .u8 0) 1 Try.underlying30 info_u8 rfl .i64 .i64 N (by omega) (by omega)
  obtain ⟨N, hN⟩ : ∃ N : Nat, readN m = N := ⟨_, rfl⟩
  have hN1 := readN_le m
  have hcase : (m < 0 ∧ N ≤ 0) ∨ (0 ≤ m ∧ m ≤ 1048576 ∧ (N : Int) = m) ∨ (1048576 < m ∧ 1048576 ≤ N) := by
    rw [← hN]; unfold readN; split <;> (try split) <;> omega
  rw [hN] at hN1 ⊢
  clear hN
  have hmk := hmk N hN1
  rcases hcase with ⟨h1, hN0⟩ | ⟨h1, h2, rfl⟩ | ⟨h1, hN0⟩
  · rw [show ((N : Nat) : Int) = 0 by omega] at hmk
    go_enter Try.func13, Try.ntmps13
    go_wp2
    clear hmk
    have hP : p < w.heap.size := cell_lt hc
    have hBm : B < w.heap.size := by obtain ⟨D, h, _⟩ := hm; exact h.lt
    have hc1 : (w.alloc (.cells (madeCells #[.int .u8 0] N) 5)).cell? ⟨p, 0, none⟩ = some (.map (some B)) := by rw [World.cell?_alloc_lt _ _ _ hP]; exact hc
    have hm1 : RefMap (w.alloc (.cells (madeCells #[.int .u8 0] N) 5)) B n g := hm.but (F := fun _ => False) ((But.refl _ _).alloc _) (by simp)
    have hB1 : Below w.heap.size w (w.alloc (.cells (madeCells #[.int .u8 0] N) 5)) := below_last (Below.refl _ _) _
    have hr0 : ∀ i, i < N → (w.alloc (.cells (madeCells #[.int .u8 0] N) 5)).cell? ⟨w.heap.size, i, none⟩ = some (.int .u8 0) := fun i hi => by
      exact (World.rowIs_made w (.int .u8 0) N 5).cell hi
    have hf0 : ∀ i, (w.alloc (.cells (madeCells #[.int .u8 0] N) 5)).frozen? ⟨w.heap.size, i, none⟩ = false := fun i => by simp
    have hz0 : w.heap.size < (w.alloc (.cells (madeCells #[.int .u8 0] N) 5)).heap.size := by simp
    generalize w.alloc (.cells (madeCells #[.int .u8 0] N) 5) = W at *
    clear hc hm
    go_loopw [8] (fun v wr => ∃ i : Nat, i ≤ N ∧ v = .int .i64 i ∧ But (· = w.heap.size) W wr ∧ (∀ j, wr.frozen? ⟨w.heap.size, j, none⟩ = false) ∧ (∀ j, j < N → wr.cell? ⟨w.heap.size, j, none⟩ = some (.int .u8 (if j < i then g (place a j) else 0)))) (fun v _ => N - (intOf v).toNat)
    case atStart => exact ⟨0, by omega, rfl, But.refl _ _, hf0, fun j hj => by rw [if_neg (by omega)]; exact hr0 j hj⟩
    case round =>
      obtain ⟨i, hi, rfl, hr, hfz, hcells⟩ := hrel
      have hc2 : wr.cell? ⟨p, 0, none⟩ = some (.map (some B)) := hr.cell hc1 (by show ¬ (p = w.heap.size); omega)
      have hm2 : RefMap wr B n g := hm1.but hr (by omega)
      obtain ⟨wo, rfl⟩ : ∃ wo : World, wo = wr := ⟨_, rfl⟩
      by_cases hlt : i < N
      · exact absurd hlt (by omega)
      · have hd : decide ((i : Int) < 0) = false := decide_eq_false (by omega)
        have hcells' := Lib.hid hcells
        have hr' := hr
        clear hcells hfz
        go_wp2
        go_ret
        refine ⟨w.heap.size, by rfl, Nat.le_refl _, Nat.lt_of_lt_of_le hz0 hr.size, fun j hj => ?_, hr.below hB1 (fun k hk => by omega) (by omega)⟩
        rw [hcells'.out j hj, if_pos (by omega)]
  · have hN0 := hN1
    go_enter Try.func13, Try.ntmps13
    go_wp2
    clear hmk
    have hP : p < w.heap.size := cell_lt hc
    have hBm : B < w.heap.size := by obtain ⟨D, h, _⟩ := hm; exact h.lt
    have hc1 : (w.alloc (.cells (madeCells #[.int .u8 0] N) 5)).cell? ⟨p, 0, none⟩ = some (.map (some B)) := by rw [World.cell?_alloc_lt _ _ _ hP]; exact hc
    have hm1 : RefMap (w.alloc (.cells (madeCells #[.int .u8 0] N) 5)) B n g := hm.but (F := fun _ => False) ((But.refl _ _).alloc _) (by simp)
    have hB1 : Below w.heap.size w (w.alloc (.cells (madeCells #[.int .u8 0] N) 5)) := below_last (Below.refl _ _) _
    have hr0 : ∀ i, i < N → (w.alloc (.cells (madeCells #[.int .u8 0] N) 5)).cell? ⟨w.heap.size, i, none⟩ = some (.int .u8 0) := fun i hi => by
      exact (World.rowIs_made w (.int .u8 0) N 5).cell hi
    have hf0 : ∀ i, (w.alloc (.cells (madeCells #[.int .u8 0] N) 5)).frozen? ⟨w.heap.size, i, none⟩ = false := fun i => by simp
    have hz0 : w.heap.size < (w.alloc (.cells (madeCells #[.int .u8 0] N) 5)).heap.size := by simp
    generalize w.alloc (.cells (madeCells #[.int .u8 0] N) 5) = W at *
    clear hc hm
    go_loopw [8] (fun v wr => ∃ i : Nat, i ≤ N ∧ v = .int .i64 i ∧ But (· = w.heap.size) W wr ∧ (∀ j, wr.frozen? ⟨w.heap.size, j, none⟩ = false) ∧ (∀ j, j < N → wr.cell? ⟨w.heap.size, j, none⟩ = some (.int .u8 (if j < i then g (place a j) else 0)))) (fun v _ => N - (intOf v).toNat)
    case atStart => exact ⟨0, by omega, rfl, But.refl _ _, hf0, fun j hj => by rw [if_neg (by omega)]; exact hr0 j hj⟩
    case round =>
      obtain ⟨i, hi, rfl, hr, hfz, hcells⟩ := hrel
      have hc2 : wr.cell? ⟨p, 0, none⟩ = some (.map (some B)) := hr.cell hc1 (by show ¬ (p = w.heap.size); omega)
      have hm2 : RefMap wr B n g := hm1.but hr (by omega)
      obtain ⟨wo, rfl⟩ : ∃ wo : World, wo = wr := ⟨_, rfl⟩
      by_cases hlt : i < N
      · have hp0 : 0 ≤ (a + i) % 4294967296 := by omega
        have hp1 : (a + i) % 4294967296 < 4294967296 := by omega
        have hget := hm2.get _ hp0 hp1
        have hcell := hcells i hlt
        rw [if_neg (by omega)] at hcell
        have hd : decide ((i : Int) < (N : Int)) = true := decide_eq_true (by omega)
        have hcells' := Lib.hid hcells
        have hfi := hfz i
        have hfz' := Lib.hid hfz
        clear hcells hfz
        go_wp2_with fail
        go_roundw
        case rel => exact ⟨i + 1, by omega, by go_num, hr.setCell (by simp) _, fun j => by rw [World.frozen?_setCell]; exact hfz'.out j, fun j hj => by
          by_cases hji : j = i
          · subst hji
            rw [if_pos (by omega)]
            exact set_same _ hcell
          · have h2 := hcells'.out j hj
            rw [set_other _ (by simp; try omega) h2]
            by_cases hlt2 : j < i
            · rw [if_pos hlt2, if_pos (by omega)]
            · rw [if_neg hlt2, if_neg (by omega)]⟩
        case measure => simp [intOf]; try omega
      · have hd : decide ((i : Int) < (N : Int)) = false := decide_eq_false (by omega)
        have hcells' := Lib.hid hcells
        have hr' := hr
        clear hcells hfz
        go_wp2
        go_ret
        refine ⟨w.heap.size, by rfl, Nat.le_refl _, Nat.lt_of_lt_of_le hz0 hr.size, fun j hj => ?_, hr.below hB1 (fun k hk => by omega) (by omega)⟩
        rw [hcells'.out j hj, if_pos (by omega)]
  · rw [show ((N : Nat) : Int) = 1048576 by omega] at hmk
    go_enter Try.func13, Try.ntmps13
    go_wp2
    clear hmk
    have hP : p < w.heap.size := cell_lt hc
    have hBm : B < w.heap.size := by obtain ⟨D, h, _⟩ := hm; exact h.lt
    have hc1 : (w.alloc (.cells (madeCells #[.int .u8 0] N) 5)).cell? ⟨p, 0, none⟩ = some (.map (some B)) := by rw [World.cell?_alloc_lt _ _ _ hP]; exact hc
    have hm1 : RefMap (w.alloc (.cells (madeCells #[.int .u8 0] N) 5)) B n g := hm.but (F := fun _ => False) ((But.refl _ _).alloc _) (by simp)
    have hB1 : Below w.heap.size w (w.alloc (.cells (madeCells #[.int .u8 0] N) 5)) := below_last (Below.refl _ _) _
    have hr0 : ∀ i, i < N → (w.alloc (.cells (madeCells #[.int .u8 0] N) 5)).cell? ⟨w.heap.size, i, none⟩ = some (.int .u8 0) := fun i hi => by
      exact (World.rowIs_made w (.int .u8 0) N 5).cell hi
    have hf0 : ∀ i, (w.alloc (.cells (madeCells #[.int .u8 0] N) 5)).frozen? ⟨w.heap.size, i, none⟩ = false := fun i => by simp
    have hz0 : w.heap.size < (w.alloc (.cells (madeCells #[.int .u8 0] N) 5)).heap.size := by simp
    generalize w.alloc (.cells (madeCells #[.int .u8 0] N) 5) = W at *
    clear hc hm
    go_loopw [8] (fun v wr => ∃ i : Nat, i ≤ N ∧ v = .int .i64 i ∧ But (· = w.heap.size) W wr ∧ (∀ j, wr.frozen? ⟨w.heap.size, j, none⟩ = false) ∧ (∀ j, j < N → wr.cell? ⟨w.heap.size, j, none⟩ = some (.int .u8 (if j < i then g (place a j) else 0)))) (fun v _ => N - (intOf v).toNat)
    case atStart => exact ⟨0, by omega, rfl, But.refl _ _, hf0, fun j hj => by rw [if_neg (by omega)]; exact hr0 j hj⟩
    case round =>
      obtain ⟨i, hi, rfl, hr, hfz, hcells⟩ := hrel
      have hc2 : wr.cell? ⟨p, 0, none⟩ = some (.map (some B)) := hr.cell hc1 (by show ¬ (p = w.heap.size); omega)
      have hm2 : RefMap wr B n g := hm1.but hr (by omega)
      obtain ⟨wo, rfl⟩ : ∃ wo : World, wo = wr := ⟨_, rfl⟩
      by_cases hlt : i < N
      · have hp0 : 0 ≤ (a + i) % 4294967296 := by omega
        have hp1 : (a + i) % 4294967296 < 4294967296 := by omega
        have hget := hm2.get _ hp0 hp1
        have hcell := hcells i hlt
        rw [if_neg (by omega)] at hcell
        have hd : decide ((i : Int) < 1048576) = true := decide_eq_true (by omega)
        have hcells' := Lib.hid hcells
        have hfi := hfz i
        have hfz' := Lib.hid hfz
        clear hcells hfz
        go_wp2_with fail
        go_roundw
        case rel => exact ⟨i + 1, by omega, by go_num, hr.setCell (by simp) _, fun j => by rw [World.frozen?_setCell]; exact hfz'.out j, fun j hj => by
          by_cases hji : j = i
          · subst hji
            rw [if_pos (by omega)]
            exact set_same _ hcell
          · have h2 := hcells'.out j hj
            rw [set_other _ (by simp; try omega) h2]
            by_cases hlt2 : j < i
            · rw [if_pos hlt2, if_pos (by omega)]
            · rw [if_neg hlt2, if_neg (by omega)]⟩
        case measure => simp [intOf]; try omega
      · have hd : decide ((i : Int) < 1048576) = false := decide_eq_false (by omega)
        have hcells' := Lib.hid hcells
        have hr' := hr
        clear hcells hfz
        go_wp2
        go_ret
        refine ⟨w.heap.size, by rfl, Nat.le_refl _, Nat.lt_of_lt_of_le hz0 hr.size, fun j hj => ?_, hr.below hB1 (fun k hk => by omega) (by omega)⟩
        rw [hcells'.out j hj, if_pos (by omega)]
end Go.Proofs.Ytglcbhfkoigedaa
