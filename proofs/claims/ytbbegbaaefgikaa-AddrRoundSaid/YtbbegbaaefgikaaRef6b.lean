/- The document's own memory is written. -/
import Derived.Test.YtbbegbaaefgikaaRef6
import Derived.StillTailTactics
import Derived.Deep.DeepCutAuto
namespace Go.Proofs.Ytbbegbaaefgikaa
set_option maxRecDepth 100000
open Go.ChangeShapes Go.WideShapes Go.ChangeAt Go.RowKit Go.Maps Go.Deep

def writeG (g : Int → Int) (a : Int) (bs : Nat → Int) : Nat → Int → Int
  | 0 => g
  | k + 1 => setG (writeG g a bs k) (place a k) (bs k)
set_option maxRecDepth 100000 in
set_option maxHeartbeats 2000000 in
theorem rmwrite_any (p B n : Nat) (g : Int → Int) (a : Int) (ad : Addr) (L cap : Nat) (bs : Nat → Int) (hn : n + L < maxLen) (hL : L < 4294967296) (w : World) (hc : w.cell? ⟨p, 0, none⟩ = some (.map (some B))) (hm : RefMap w B n g) (hpB : p ≠ B) (hadB : ad.block ≠ B)
    (hb : ∀ i, i < L → w.cell? (ad.add i) = some (.int .u8 (bs i))) (hb0 : ∀ i, 0 ≤ bs i ∧ bs i < 256) :
    Calls Try.prog 21 #[.pointer (some ⟨p, 0, none⟩), .int .u32 a, .slice (some ad) L cap] w fun e w' => e = .returned (.tuple #[]) ∧ RefMap w' B (n + L) (writeG g a bs L) ∧ But (· = B) w w' := by
  go_enter Try.func21, Try.ntmps21
  go_wp2
  go_loopw [6] (fun v wr => ∃ i : Nat, i ≤ L ∧ v = .int .i64 i ∧ But (· = B) w wr ∧ RefMap wr B (n + i) (writeG g a bs i)) (fun v _ => L - (intOf v).toNat)
  case atStart => exact ⟨0, by omega, rfl, But.refl _ _, hm⟩
  case round =>
    obtain ⟨i, hi, rfl, hr, hm2⟩ := hrel
    have hc2 : wr.cell? ⟨p, 0, none⟩ = some (.map (some B)) := hr.cell hc hpB
    by_cases hlt : i < L
    · have hb2 : wr.cell? (ad.add i) = some (.int .u8 (bs i)) := hr.cell (hb i hlt) (show ¬ (ad.add i).block = B by unfold Addr.add; split <;> exact hadB)
      have hp0 : 0 ≤ place a i := by unfold place; omega
      have hp1 : place a i < 4294967296 := by unfold place; omega
      have hk : IntKind.u32.wrap (a + IntKind.u32.wrap (i : Int)) = place a i := by rw [IntKind.wrap_u32, IntKind.wrap_u32]; unfold place; omega
      obtain ⟨w2, hrun, hm3, hbut⟩ := RefMap.put (w := wr.drew) (hm2.but (F := fun _ => False) ((But.refl _ _).drew) (by simp)) (by omega) _ _ hp0 hp1 (hb0 i).1 (hb0 i).2
      rw [← hk] at hrun
      clear hk
      obtain ⟨wo, rfl⟩ : ∃ wo : World, wo = wr := ⟨_, rfl⟩
      have hd : decide ((i : Int) < (L : Int)) = true := decide_eq_true (by omega)
      go_upto_region 3 with (fail)
      go_still_tail 12, (by kernel_rfl)
      change wpList _ _ _ _ _ wo.drew
      have hc3 : wo.drew.cell? ⟨p, 0, none⟩ = some (.map (some B)) := hc2
      have hb3 : wo.drew.cell? (ad.add i) = some (.int .u8 (bs i)) := hb2
      have hr3 : But (· = B) w wo.drew := hr.drew
      generalize wo.drew = W at *
      clear hm hm2 hr hc2 hb2
      go_wp2_with fail
      go_roundw
      case rel => exact ⟨i + 1, by omega, by go_num, hr3.trans hbut (fun _ _ h => h), hm3⟩
      case measure => simp [intOf]; try omega
    · obtain rfl : i = L := by omega
      have hd : decide ((i : Int) < (i : Int)) = false := by simp
      go_wp2
      go_end0
      exact ⟨rfl, hm2, hr⟩
end Go.Proofs.Ytbbegbaaefgikaa
