/- The landed memory is written. -/
import Derived.Test.YtkmoefgoolhegaaMemB
import Derived.Deep.DeepCutAuto
namespace Go.Proofs.Ytkmoefgoolhegaa
open Go.ChangeShapes Go.WideShapes Go.ChangeAt Go.RowKit Go.Maps Go.Deep

set_option maxHeartbeats 2000000 in
theorem mwrite0_any (p : Nat) (F : Nat → Prop) (g : Int → Int) (pg : Int → Bool) (pt : Int → Option Nat) (B : Nat) (D : DataW Unit) (a : Int) (v : Value) (L : Nat) (bs : Nat → Int) (a0 : 0 ≤ a) (a1 : a < 4294967296) (hb : ∀ i, 0 ≤ bs i ∧ bs i < 256) (w : World) (hm : PAt w p F g pg pt B D) (hs : Slc .u8 w v L bs) (hv : 0 < L → ∀ k, v.ownBlock = some k → ¬ F k) :
    Calls Try.prog 22 #[.pointer (some ⟨p, 0, none⟩), .int .u32 a, v] w fun e w' => ∃ F' pt' D', e = .returned (.tuple #[]) ∧ (∀ k, F' k → F k ∨ w.heap.size ≤ k) ∧ PAt w' p F' (writeG g a bs L) (writeP pg a L) pt' B D' ∧ But F w w' := by
  go_enter Try.func22, Try.ntmps22
  go_wp2
  go_loopw [1, 6] (fun v1 v6 wr => ∃ (i m : Nat) (F' : Nat → Prop) (pt' : Int → Option Nat) (D' : DataW Unit), i + m = L ∧ v1 = .int .u32 (place a i) ∧ Slc .u8 wr v6 m (fun j => bs (i + j)) ∧ (0 < m → ∀ k, v6.ownBlock = some k → ¬ F k ∧ k < w.heap.size) ∧
    (∀ k, F' k → F k ∨ w.heap.size ≤ k) ∧ PAt wr p F' (writeG g a bs i) (writeP pg a i) pt' B D' ∧ But F w wr) (fun _ v6 _ => match v6 with | .slice _ n _ => n | _ => 0)
  case atStart =>
    exact ⟨0, L, F, pt, D, by omega, by unfold place; rw [show (a + ((0 : Nat) : Int)) % 4294967296 = a by omega], by simpa using hs, fun h k hk => ⟨hv h k hk, hs.own_lt h k hk⟩, fun _ h => .inl h, hm, But.refl _ _⟩
  case round =>
    obtain ⟨i, m, F', pt', D', hL, rfl, hs2, hv2, hF, hm2, hbut⟩ := hrel
    by_cases hm0 : 0 < m
    · rcases hs2 with ⟨rfl, rfl⟩ | ⟨ra, cap, rfl, hcap, hcell⟩
      · exact absurd hm0 (by omega)
      · have hd : decide (0 < (m : Int)) = true := decide_eq_true (by omega)
        obtain ⟨hraF, hral⟩ := hv2 hm0 ra.block rfl
        have p0 : 0 ≤ place a i := by unfold place; omega
        have p1 : place a i < 4294967296 := by unfold place; omega
        obtain ⟨q0, q1, q2⟩ := pg0_range _ p0 p1
        obtain ⟨l, hl⟩ : ∃ l : Nat, (l : Int) = place a i % 4096 := ⟨(place a i % 4096).toNat, by omega⟩
        have hl1 : l < 4096 := by omega
        have hpl : pg0 (place a i) + (l : Int) = place a i := by unfold pg0; omega
        obtain ⟨c, hc⟩ : ∃ c : Nat, c = Nat.min m (4096 - l) := ⟨_, rfl⟩
        have hc1 : c ≤ m := by rw [hc]; exact Nat.min_le_left _ _
        have hc2 : c ≤ 4096 - l := by rw [hc]; exact Nat.min_le_right _ _
        have hc3 : 0 < c := by rw [hc]; exact Nat.lt_min.2 ⟨hm0, by omega⟩
        have hbl := blit_write g a bs i c (by omega)
        obtain ⟨c', hc'⟩ : ∃ c', c = c' + 1 := ⟨c - 1, by omega⟩
        have hpw := page_write pg a i c' (by omega)
        rw [← hc'] at hpw
        have hadv : IntKind.u32.wrap (place a i + IntKind.u32.wrap (c : Int)) = place a (i + c) := by rw [IntKind.wrap_u32, IntKind.wrap_u32]; unfold place; omega
        obtain ⟨wo, hwo⟩ : ∃ wo : World, wo = wr := ⟨_, rfl⟩
        subst hwo
        go_wp2_with fail
        refine (split_any _ p0 p1 _).mono ?_
        rintro e w1 ⟨rfl, hw1⟩
        subst w1
        rw [← hl]
        clear hl
        go_wp2_with fail
        refine (grown_any p F' _ _ pt' B D' _ q0 q1 q2 _ hm2).mono ?_
        rintro e w1 ⟨F2, k, pt2, D2, rfl, hF1, hF2, hk, hm1, hbut1⟩
        obtain ⟨_, hFk, _, _, hrow⟩ := hm1.page _ _ hk
        have hbut2 : But F w w1 := hbut.trans hbut1 (fun j hj h => by rcases hF j h with h2 | h2; exact h2; exact absurd hj (by omega))
        have hF3 : ∀ j, F2 j → F j ∨ w.heap.size ≤ j := fun j h => by
          rcases hF1 j h with h2 | h2
          · exact hF j h2
          · exact .inr (Nat.le_trans hbut.size h2)
        have hra2 : ¬ F' ra.block := fun h => by rcases hF _ h with h2 | h2; exact hraF h2; omega
        have hcell2 : ∀ j, j < m → w1.cell? (ra.add j) = some (.int .u8 (bs (i + j))) := fun j hj => hbut1.cell (hcell j hj) (by rw [add_block]; exact hra2)
        have hm3 := PAt.setBytes hk c l (fun j => bs (i + j)) _ _ hm1 (by omega) (fun j _ => hb _)
        rw [hpl, hbl, setP_pg0, ← hpw] at hm3
        have hbut3 : But F w (w1.setCells k l (bytesOf (fun j => bs (i + j)) c)) := But.setCells (fun h => by rcases hF3 k hFk with h2 | h2; exact h2; exact absurd h (by omega)) _ _ _ hbut2
        have hdst : ∀ j, j < c → (w1.cell? ⟨k, l + j, none⟩).isSome = true := fun j hj => by rw [hrow.cell (show l + j < 4096 by omega)]; rfl
        have hfro : ∀ j, w1.frozen? ⟨k, l + j, none⟩ = false := fun j => hrow.frozen _
        have hcx := Lib.hid hc
        have hca : ∀ j, j < m - c → (w1.setCells k l (bytesOf (fun j => bs (i + j)) c)).cell? ((ra.add c).add j) = some (.int .u8 (bs (i + c + j))) := fun j hj => by
          have h2 := hcell2 (c + j) (by omega)
          have e : (ra.add c).add j = ra.add (c + j) := by
            unfold Addr.add
            by_cases hx : c = 0 <;> by_cases hy : j = 0 <;> simp [hx, hy, Nat.add_assoc]
          rw [e, World.cell?_setCells_out k _ _ _ _ (fun h => by
            rw [add_block] at h
            rcases hF3 k hFk with h3 | h3
            · exact absurd (h ▸ h3) hraF
            · omega), h2, Nat.add_assoc]
        clear hm1 hrow hm hm2 hcell hc hc'
        have hsl := slice_page k l hl1
        have hcL : (c : Int) ≤ (m : Int) := by omega
        go_wp2_with (refine wpList_copy_cells rfl (.tmp 24) (.tmp 25) _ _ rfl 5 Try.underlying42 (by kernel_rfl) ⟨k, l, none⟩ ra (4096 - l) (4096 - l) m cap rfl rfl k l rfl (bytesOf (fun j => bs (i + j)) c) (by rw [bytesOf_len]; exact hcx.out) (fun j u hu => by obtain ⟨h1, rfl⟩ := bytesOf_at hu; exact hcell2 j (by omega)) (fun j hj => hdst j (by rwa [bytesOf_len] at hj)) (fun j _ => hfro j) (fun u hu => bytesOf_one u hu) ?_; rw [bytesOf_len])
        go_roundw
        case rel => exact ⟨i + c, m - c, F2, pt2, D2, by omega, by rw [← hadv, IntKind.wrap_u32, IntKind.wrap_u32]; congr 1; omega, by
          by_cases hcc : cap = c
          · rw [if_pos hcc]
            exact .inr ⟨ra, cap - c, rfl, by omega, fun j hj => by omega⟩
          · rw [if_neg hcc]
            exact .inr ⟨_, cap - c, rfl, by omega, hca⟩, fun hp j hj => by
          split at hj
          · cases hj; exact ⟨hraF, hral⟩
          · cases hj; rw [add_block]; exact ⟨hraF, hral⟩, hF3, hm3, hbut3⟩
        case measure => show m - c < m; omega
    · obtain rfl : m = 0 := by omega
      obtain rfl : i = L := by omega
      obtain ⟨ad, cap, rfl⟩ := hs2.len
      go_wp2
      go_end0
      exact ⟨F', pt', D', rfl, hF, hm2, hbut⟩
end Go.Proofs.Ytkmoefgoolhegaa
