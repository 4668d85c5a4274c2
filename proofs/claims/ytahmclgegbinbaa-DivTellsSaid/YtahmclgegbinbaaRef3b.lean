/- What the document's own signed quotient (package salternref1) answers, for every input. -/
import Derived.Test.YtahmclgegbinbaaRef3
namespace Go.Proofs.Ytahmclgegbinbaa
open Go.ChangeShapes Go.WideShapes Go.ChangeAt Go.RowKit

def idN (h l : Int) : Int := wrap64 (both h l)
def idOk (h l b : Int) : Bool := decide (wrap32 b ≠ 0 ∧ -2147483648 ≤ (idN h l).tdiv (wrap32 b) ∧ (idN h l).tdiv (wrap32 b) ≤ 2147483647)
def idQ (h l b : Int) : Int := if idOk h l b then (idN h l).tdiv (wrap32 b) % 4294967296 else 0
def idR (h l b : Int) : Int := if idOk h l b then (idN h l).tmod (wrap32 b) % 4294967296 else 0
theorem tdiv_abs (n d : Int) : -(n.natAbs : Int) ≤ n.tdiv d ∧ n.tdiv d ≤ n.natAbs := by
  have h : (n.tdiv d).natAbs ≤ n.natAbs := by rw [Int.natAbs_tdiv]; exact Nat.div_le_self _ _
  omega
theorem tdiv_64 (n d : Int) (h0 : -9223372036854775808 ≤ n) (h1 : n ≤ 9223372036854775807) (hx : ¬ (n = -9223372036854775808 ∧ d = -1)) : -9223372036854775808 ≤ n.tdiv d ∧ n.tdiv d ≤ 9223372036854775807 := by
  have h := tdiv_abs n d
  by_cases hn : n = -9223372036854775808
  · have hd : d ≠ -1 := fun e => hx ⟨hn, e⟩
    subst hn
    refine ⟨by omega, ?_⟩
    have e : ((-9223372036854775808 : Int).tdiv d).natAbs = 9223372036854775808 / d.natAbs := by rw [Int.natAbs_tdiv]; rfl
    by_cases h1 : d.natAbs = 1
    · have : d = 1 := by omega
      subst this
      decide
    · have : 9223372036854775808 / d.natAbs ≤ 9223372036854775807 := by
        by_cases h0 : d.natAbs = 0
        · rw [h0]; decide
        · exact Nat.le_of_lt_succ (Nat.div_lt_self (by decide) (by omega))
      omega
  · omega
theorem tmod_32 (n d : Int) (h0 : -2147483648 ≤ d) (h1 : d ≤ 2147483647) (hd : d ≠ 0) : -2147483648 < n.tmod d ∧ n.tmod d < 2147483648 := by
  have h : (n.tmod d).natAbs < d.natAbs := by
    rw [Int.natAbs_tmod]; exact Nat.mod_lt _ (by omega)
  omega
theorem wrap64_lo (a : Int) : -9223372036854775808 ≤ wrap64 a := by unfold wrap64; omega
theorem wrap64_hi (a : Int) : wrap64 a ≤ 9223372036854775807 := by unfold wrap64; omega
theorem wrap32_mod (a : Int) : wrap32 a % 4294967296 = a % 4294967296 := by unfold wrap32; omega

set_option maxRecDepth 100000 in
set_option maxHeartbeats 4000000 in
theorem ridiv_any (h l b : Int) (h0 : 0 ≤ h) (h1 : h < 4294967296) (l0 : 0 ≤ l) (l1 : l < 4294967296) (w : World) :
    Calls Try.prog 18 #[.int .u32 h, .int .u32 l, .int .u32 b] w fun e w' =>
   e = .returned (.tuple #[.int .u32 (idQ h l b), .int .u32 (idR h l b), .bool (idOk h l b)]) ∧ Below w.heap.size w w' := by
  have hO := both_or h l h0 h1 l0 l1
  have n0 : -9223372036854775808 ≤ idN h l := wrap64_lo _
  have n1 : idN h l ≤ 9223372036854775807 := wrap64_hi _
  have b0 := wrap32_lo b
  have b1 := wrap32_hi b
  have hN : wrap64 (both h l) = idN h l := rfl
  have hK := Lib.hid (show idOk h l b = decide (wrap32 b ≠ 0 ∧ -2147483648 ≤ (idN h l).tdiv (wrap32 b) ∧ (idN h l).tdiv (wrap32 b) ≤ 2147483647) from rfl)
  have hQ := Lib.hid (show idQ h l b = if idOk h l b then (idN h l).tdiv (wrap32 b) % 4294967296 else 0 from rfl)
  have hR := Lib.hid (show idR h l b = if idOk h l b then (idN h l).tmod (wrap32 b) % 4294967296 else 0 from rfl)
  obtain ⟨D, hD⟩ : ∃ D : Int, wrap32 b = D := ⟨_, rfl⟩
  rw [hD] at b0 b1 hK hQ hR
  generalize idN h l = N at *
  by_cases dz : D = 0
  · have dz' : (D == 0) = true := by rw [beq_iff_eq]; exact dz
    have hK' := Lib.hid (show idOk h l b = false by rw [hK.out]; simp [dz])
    clear dz
    go_enter Try.func18, Try.ntmps18
    go_wp2
    refine bodyPost_ret (v := .tuple #[.int .u32 (idQ h l b), .int .u32 (idR h l b), .bool (idOk h l b)]) (by rw [hQ.out, hR.out, hK'.out]; simp [results, Try.results18, go_sem]) rfl ⟨rfl, Below.refl _ _⟩
  · have dz' : (D == 0) = false := by rw [beq_eq_false_iff_ne]; exact dz
    by_cases hx : N = -9223372036854775808 ∧ D = -1
    · obtain ⟨rfl, rfl⟩ := hx
      have hK' := Lib.hid (show idOk h l b = false by rw [hK.out]; decide)
      go_enter Try.func18, Try.ntmps18
      go_wp2
      refine bodyPost_ret (v := .tuple #[.int .u32 (idQ h l b), .int .u32 (idR h l b), .bool (idOk h l b)]) (by rw [hQ.out, hR.out, hK'.out]; simp [results, Try.results18, go_sem]) rfl ⟨rfl, Below.refl _ _⟩
    · obtain ⟨t0, t1⟩ := tdiv_64 N D n0 n1 hx
      obtain ⟨r0, r1⟩ := tmod_32 N D b0 b1 dz
      have hg : (N == -9223372036854775808) = false ∨ ((N == -9223372036854775808) = true ∧ (D == -1) = false) := by
        by_cases hn : N = -9223372036854775808
        · right; exact ⟨by rw [beq_iff_eq]; exact hn, by rw [beq_eq_false_iff_ne]; exact fun e => hx ⟨hn, e⟩⟩
        · left; rw [beq_eq_false_iff_ne]; exact hn
      clear hx
      by_cases c1 : N.tdiv D < -2147483648
      · have hK' := Lib.hid (show idOk h l b = false by rw [hK.out]; simp; omega)
        rcases hg with hg | ⟨hg, hg2⟩
        all_goals
          go_enter Try.func18, Try.ntmps18
          go_wp2
          go_region
          all_goals
            go_wp2
            refine bodyPost_ret (v := .tuple #[.int .u32 (idQ h l b), .int .u32 (idR h l b), .bool (idOk h l b)]) (by rw [hQ.out, hR.out, hK'.out]; simp [results, Try.results18, go_sem]) rfl ⟨rfl, (Below.refl _ _).drew⟩
      · by_cases c2 : 2147483647 < N.tdiv D
        · have hK' := Lib.hid (show idOk h l b = false by rw [hK.out]; simp; omega)
          rcases hg with hg | ⟨hg, hg2⟩
          all_goals
            go_enter Try.func18, Try.ntmps18
            go_wp2
            go_region
            all_goals
              go_wp2
              refine bodyPost_ret (v := .tuple #[.int .u32 (idQ h l b), .int .u32 (idR h l b), .bool (idOk h l b)]) (by rw [hQ.out, hR.out, hK'.out]; simp [results, Try.results18, go_sem]) rfl ⟨rfl, (Below.refl _ _).drew⟩
        · have hK' := Lib.hid (show idOk h l b = true by rw [hK.out]; simp; omega)
          rcases hg with hg | ⟨hg, hg2⟩
          all_goals
            go_enter Try.func18, Try.ntmps18
            go_wp2
            go_region
            all_goals
              go_wp2
              refine bodyPost_ret (v := .tuple #[.int .u32 (idQ h l b), .int .u32 (idR h l b), .bool (idOk h l b)]) (by rw [hQ.out, hR.out, hK'.out]; simp [results, Try.results18, go_sem]) rfl ⟨rfl, (Below.refl _ _).drew⟩
end Go.Proofs.Ytahmclgegbinbaa
