/- The landed memory: split, New, Get, grown, Set. -/
import Derived.Test.YtkmoefgoolhegaaPage
namespace Go.Proofs.Ytkmoefgoolhegaa
open Go.ChangeShapes Go.WideShapes Go.ChangeAt Go.RowKit Go.Maps Go.Deep

/-- where the page of a place begins -/
def pg0 (a : Int) : Int := a / 4096 * 4096
theorem split_any (a : Int) (a0 : 0 ≤ a) (a1 : a < 4294967296) (w : World) :
    Calls Try.prog 17 #[.int .u32 a] w fun e w' => e = .returned (.tuple #[.int .u32 (pg0 a), .int .i64 (a % 4096)]) ∧ w' = w := by
  have e1 : Int.tmod a 4096 = a % 4096 := by rw [Int.tmod_eq_emod_of_nonneg a0]
  have e2 : IntKind.i64.wrap (a % 4096) = a % 4096 := by rw [IntKind.wrap_i64]; omega
  have e3 : IntKind.u32.wrap (a % 4096) = a % 4096 := by rw [IntKind.wrap_u32]; omega
  have e4 : IntKind.u32.wrap (a - a % 4096) = pg0 a := by rw [IntKind.wrap_u32]; unfold pg0; omega
  go_enter Try.func17, Try.ntmps17
  go_wp2
  go_ret2
  simp
theorem mnew0_any (w : World) : Calls Try.prog 8 #[] w fun e w' => ∃ p F B, e = .returned (.pointer (some ⟨p, 0, none⟩)) ∧ (∀ k, F k → w.heap.size ≤ k) ∧ PAt w' p F (fun _ => 0) (fun _ => false) (fun _ => none) B (.map []) ∧ Below w.heap.size w w' := by
  have hmm := @run_makeMap Try.prog
  go_enter Try.func8, Try.ntmps8
  go_wp2
  go_ret
  refine ⟨w.heap.size + 1, fun k => k = w.heap.size + 1 ∨ k = w.heap.size, w.heap.size, by simp, (by rintro k (rfl | rfl) <;> omega), ?_, below_last (below_last (Below.refl _ _) _) _⟩
  refine ⟨by simp, ?_, fun _ _ _ => rfl, fun _ => rfl, ⟨1048576, Nat.le_refl _, Nat.zero_le _, Nat.le_refl _⟩, fun _ _ h => (by cases h), fun _ _ _ h => (by cases h), fun _ _ => rfl, fun _ => rfl, fun _ => ⟨Int.le_refl 0, by show (0 : Int) < 256; omega⟩, .inl rfl, .inr rfl, by omega, (by rintro k (rfl | rfl) <;> simp <;> omega)⟩
  have := (World.ownsMap_made (H := Unit) w Try.prog 22 ptrElem)
  exact this.alloc _
theorem pg0_range (a : Int) (a0 : 0 ≤ a) (a1 : a < 4294967296) : pg0 a % 4096 = 0 ∧ 0 ≤ pg0 a ∧ pg0 a < 4294967296 := by unfold pg0; omega
theorem mget0_any (p : Nat) (F : Nat → Prop) (g : Int → Int) (pg : Int → Bool) (pt : Int → Option Nat) (B : Nat) (D : DataW Unit) (a : Int) (a0 : 0 ≤ a) (a1 : a < 4294967296) (w : World) (hm : PAt w p F g pg pt B D) :
    Calls Try.prog 13 #[.pointer (some ⟨p, 0, none⟩), .int .u32 a] w fun e w' => e = .returned (.int .u8 (g a)) ∧ w' = w := by
  obtain ⟨q0, q1, q2⟩ := pg0_range a a0 a1
  have hget := hm.get (pg0 a) q1 q2
  have hc := hm.cell
  cases hp : pt (pg0 a) with
  | none =>
    rw [hp] at hget
    have hg : g a = 0 := hm.none_ a hp
    rw [hg]
    simp only [ptrOf] at hget
    clear hm
    go_enter Try.func13, Try.ntmps13
    go_wp2_with fail
    refine (split_any a a0 a1 _).mono ?_
    rintro e w1 ⟨rfl, rfl⟩
    go_wp2
    go_ret
    simp
  | some k =>
    rw [hp] at hget
    simp only [ptrOf] at hget
    obtain ⟨_, hF, _, _, hrow⟩ := hm.page _ _ hp
    obtain ⟨i, hi⟩ : ∃ i : Nat, (i : Int) = a % 4096 := ⟨(a % 4096).toNat, by omega⟩
    have hi1 : i < 4096 := by omega
    have hcell := hrow.cell hi1
    rw [show pg0 a + (i : Int) = a by unfold pg0; omega] at hcell
    clear hm hrow
    go_enter Try.func13, Try.ntmps13
    go_wp2_with fail
    refine (split_any a a0 a1 _).mono ?_
    rintro e w1 ⟨rfl, rfl⟩
    rw [← hi]
    clear hi
    go_wp2
    go_ret
    simp
theorem grown_any (p : Nat) (F : Nat → Prop) (g : Int → Int) (pg : Int → Bool) (pt : Int → Option Nat) (B : Nat) (D : DataW Unit) (q : Int) (q0 : q % 4096 = 0) (q1 : 0 ≤ q) (q2 : q < 4294967296) (w : World) (hm : PAt w p F g pg pt B D) :
    Calls Try.prog 18 #[.pointer (some ⟨p, 0, none⟩), .int .u32 q] w fun e w' => ∃ F' k pt' D', e = .returned (.pointer (some ⟨k, 0, none⟩)) ∧ (∀ j, F' j → F j ∨ w.heap.size ≤ j) ∧ (∀ j, F j → F' j) ∧ pt' q = some k ∧ PAt w' p F' g (setP pg q) pt' B D' ∧ But F w w' := by
  have hget := hm.get q q1 q2
  have hc := hm.cell
  have hq : q / 4096 * 4096 = q := by omega
  cases hp : pt q with
  | some k =>
    rw [hp] at hget
    simp only [ptrOf] at hget
    have hsp : setP pg q = pg := by
      funext x
      unfold setP
      rw [hq]
      by_cases hx : x = q
      · subst hx; rw [hm.pgs x, hp]; simp
      · simp [hx]
    go_enter Try.func18, Try.ntmps18
    go_wp2
    go_ret
    exact ⟨F, k, pt, D, by simp, fun _ h => .inl h, fun _ h => h, hp, by rw [hsp]; exact hm, But.refl _ _⟩
  | none =>
    rw [hp] at hget
    simp only [ptrOf] at hget
    obtain ⟨z, hal, hnew⟩ := alloc_page
    have hrow := hnew w
    have hbel : Below w.heap.size w (w.alloc (.cells z 65)) := below_last (Below.refl _ _) _
    have hm1 := hm.below hbel
    have hc1 := hm1.cell
    have hsz : Maps.size D < maxLen := by
      obtain ⟨N, hN, h1, _⟩ := hm.size
      have := cnt_le pt N
      unfold maxLen
      omega
    obtain ⟨w2, hrun, hmap, hturn⟩ := hm1.map.store key_u32 Try.underlying47 hsz (key_page q q1 q2) (ptrElem_of (some w.heap.size))
    simp only [ptrOf] at hrun
    have hgr := hturn.grown
    have hbut : But F w w2 := (But.of_below (F := F) hbel).trans (But.of_grown hgr) (fun i _ h => by subst h; exact hm.selfB)
    have hhas : Maps.has D (.int .u32 q) = false := by rw [hm.has q, hp]; rfl
    have htidy := hm.map.tidy key_u32
    have hsize : Maps.size (D.put (.int .u32 q) (.lit (.int .i64 (codeOf (some w.heap.size))))) = Maps.size D + 1 := by rw [Maps.size_put htidy, hhas]; simp
    have hB : B < w.heap.size := hm.lt _ hm.selfB
    have hPP : p < w.heap.size := hm.lt _ hm.self
    have hP2 : PAt w2 p (fun j => F j ∨ j = w.heap.size) g (setP pg q) (setPt pt q w.heap.size) B (D.put (.int .u32 q) (.lit (.int .i64 (codeOf (some w.heap.size))))) := by
      have hkl : WideAt.IsKeyLit (.int .u32 q) := by simp [WideAt.IsKeyLit]
      have hb1 : But (· = B) (w.alloc (.cells z 65)) w2 := But.of_grown hgr
      refine ⟨hb1.cell hc1 hm.ne, by rw [hsize]; exact hmap, fun x x0 x1 => ?_, fun x => ?_, ?_, fun x k hk => ?_, fun x x' k hk hk' => ?_, fun a ha => ?_, fun x => ?_, hm.byte, .inl hm.self, .inl hm.selfB, hm.ne, ?_⟩
      · unfold setPt
        by_cases hx : x = q
        · subst hx
          rw [if_pos rfl]
          exact atKey_put_same (hm.map.isMap) hkl _ _
        · rw [if_neg hx, atKey_put_other (by simpa using hx) _ _]
          exact hm.at_ x x0 x1
      · unfold setPt
        by_cases hx : x = q
        · subst hx
          rw [if_pos rfl]
          exact has_put_same (hm.map.isMap) hkl _
        · rw [if_neg hx, has_put_other (by simpa using hx) _]
          exact hm.has x
      · obtain ⟨N, n0, n1, n2⟩ := hm.size
        obtain ⟨y, hy⟩ : ∃ y : Nat, q = (y : Int) * 4096 := ⟨(q / 4096).toNat, by omega⟩
        have := cnt_set pt y w.heap.size (by rw [← hy]; exact hp) N
        rw [← hy, if_pos (by omega)] at this
        exact ⟨N, n0, by rw [hsize, this]; omega, n2⟩
      · unfold setPt at hk
        by_cases hx : x = q
        · subst hx
          rw [if_pos rfl] at hk
          injection hk with hk
          subst hk
          refine ⟨⟨q0, q1, q2⟩, .inr rfl, by omega, by omega, ?_⟩
          have h2 := hrow.of_block (hb1.block w.heap.size (by simp) (by omega))
          refine h2.congr (fun i hi => ?_)
          rw [hm.none_ (x + i) (by rw [show (x + (i : Int)) / 4096 * 4096 = x by omega]; exact hp)]
        · rw [if_neg hx] at hk
          obtain ⟨r0, r1, r2, r3, r4⟩ := hm1.page x k hk
          exact ⟨r0, .inl r1, r2, r3, r4.of_block (hb1.block k (hm1.lt k r1) r3)⟩
      · unfold setPt at hk hk'
        by_cases hx : x = q
        · by_cases hx' : x' = q
          · rw [hx, hx']
          · rw [if_pos hx] at hk
            rw [if_neg hx'] at hk'
            injection hk with hk
            have := hm.lt k (hm.page x' k hk').2.1
            omega
        · rw [if_neg hx] at hk
          by_cases hx' : x' = q
          · rw [if_pos hx'] at hk'
            injection hk' with hk'
            have := hm.lt k (hm.page x k hk).2.1
            omega
          · rw [if_neg hx'] at hk'
            exact hm.apart x x' k hk hk'
      · refine hm.none_ a ?_
        unfold setPt at ha
        split at ha
        · cases ha
        · exact ha
      · unfold setP setPt
        rw [hq, hm.pgs x]
        by_cases hx : x = q
        · simp [hx]
        · simp [hx]
      · have h2 := hb1.size
        rintro j (h | rfl)
        · have := hm.lt j h; simp at h2; omega
        · simp at h2; omega
    go_enter Try.func18, Try.ntmps18
    clear hnew hm1 hm hmap hturn hgr
    go_wp2
    go_ret
    exact ⟨_, w.heap.size, _, _, by simp, (by rintro j (h | rfl); exact .inl h; exact .inr (Nat.le_refl _)), fun _ h => .inl h, by simp [setPt], hP2, hbut⟩
end Go.Proofs.Ytkmoefgoolhegaa
