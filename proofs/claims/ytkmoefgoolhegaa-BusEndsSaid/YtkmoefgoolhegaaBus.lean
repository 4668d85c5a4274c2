/- The contracts of the landed package bus. PBus w b F g pg c d: the bus at block b, made of the blocks F, has the memory g (pages pg), code c, data d. -/
import Derived.Test.YtkmoefgoolhegaaBusB
import Derived.Test.YtkmoefgoolhegaaMem
import Derived.Test.YtkmoefgoolhegaaSeg
import Derived.BigQuiet
import Derived.Deep.QuietTactic
import Derived.Deep.RegionHeld3
import Derived.StillTailTactics
import Derived.Deep.DeepCutAuto
namespace Go.Proofs.Ytkmoefgoolhegaa
open Go.ChangeShapes Go.WideShapes Go.ChangeAt Go.RowKit

/-- The cells of a bus. -/
structure BAt (w : World) (b p : Nat) (c d : Sg) : Prop where
  m : w.cell? ⟨b, 0, none⟩ = some (.pointer (some ⟨p, 0, none⟩))
  c1 : w.cell? ⟨b, 1, none⟩ = some (.int .u32 c.b)
  c2 : w.cell? ⟨b, 2, none⟩ = some (.int .u32 c.z)
  c3 : w.cell? ⟨b, 3, none⟩ = some (.bool c.r)
  c4 : w.cell? ⟨b, 4, none⟩ = some (.bool c.q)
  c5 : w.cell? ⟨b, 5, none⟩ = some (.bool c.x)
  d1 : w.cell? ⟨b, 6, none⟩ = some (.int .u32 d.b)
  d2 : w.cell? ⟨b, 7, none⟩ = some (.int .u32 d.z)
  d3 : w.cell? ⟨b, 8, none⟩ = some (.bool d.r)
  d4 : w.cell? ⟨b, 9, none⟩ = some (.bool d.q)
  d5 : w.cell? ⟨b, 10, none⟩ = some (.bool d.x)
  fz : ∀ o, w.frozen? ⟨b, o, none⟩ = false
theorem BAt.lt {w : World} {b p : Nat} {c d : Sg} (h : BAt w b p c d) : b < w.heap.size := cell_lt h.m
theorem BAt.but {G : Nat → Prop} {w w' : World} {b p : Nat} {c d : Sg} (h : BAt w b p c d) (hb : But G w w') (hn : ¬ G b) : BAt w' b p c d :=
  ⟨hb.cell h.m hn, hb.cell h.c1 hn, hb.cell h.c2 hn, hb.cell h.c3 hn, hb.cell h.c4 hn, hb.cell h.c5 hn, hb.cell h.d1 hn, hb.cell h.d2 hn, hb.cell h.d3 hn, hb.cell h.d4 hn, hb.cell h.d5 hn, fun o => by rw [hb.frozen h.lt hn, h.fz o]⟩
theorem BAt.below {w w' : World} {b p : Nat} {c d : Sg} (h : BAt w b p c d) (hb : Below w.heap.size w w') : BAt w' b p c d := h.but (G := fun _ => False) (But.of_below hb) (fun h => h)
def PBus (w : World) (b : Nat) (F : Nat → Prop) (g : Int → Int) (pg : Int → Bool) (c d : Sg) : Prop :=
  ∃ p Fm, PMem w p Fm g pg ∧ BAt w b p c d ∧ (∀ k, Fm k → F k) ∧ F b ∧ ¬ Fm b ∧ (∀ k, F k → k < w.heap.size) ∧ c.ok ∧ d.ok
theorem PBus.but {F G : Nat → Prop} {w w' : World} {b : Nat} {g : Int → Int} {pg : Int → Bool} {c d : Sg} (h : PBus w b F g pg c d) (hb : But G w w') (hn : ∀ k, F k → ¬ G k) : PBus w' b F g pg c d := by
  obtain ⟨p, Fm, h1, h2, h3, h4, h5, h6, h7⟩ := h
  exact ⟨p, Fm, h1.but hb (fun k hk => hn k (h3 k hk)), h2.but hb (hn b h4), h3, h4, h5, fun k hk => Nat.lt_of_lt_of_le (h6 k hk) hb.size, h7⟩
theorem PBus.lt {F : Nat → Prop} {w : World} {b : Nat} {g : Int → Int} {pg : Int → Bool} {c d : Sg} (h : PBus w b F g pg c d) (k : Nat) (hk : F k) : k < w.heap.size := by
  obtain ⟨p, Fm, h1, h2, h3, h4, h5, h6, h7⟩ := h
  exact h6 k hk
theorem PBus.self {F : Nat → Prop} {w : World} {b : Nat} {g : Int → Int} {pg : Int → Bool} {c d : Sg} (h : PBus w b F g pg c d) : F b := by
  obtain ⟨p, Fm, h1, h2, h3, h4, h5, h6, h7⟩ := h
  exact h4
theorem PBus.byte {F : Nat → Prop} {w : World} {b : Nat} {g : Int → Int} {pg : Int → Bool} {c d : Sg} (h : PBus w b F g pg c d) (a : Int) : 0 ≤ g a ∧ g a < 256 := by
  obtain ⟨p, Fm, h1, h2, h3, h4, h5, h6, h7⟩ := h
  exact h1.byte a
theorem PBus.oks {F : Nat → Prop} {w : World} {b : Nat} {g : Int → Int} {pg : Int → Bool} {c d : Sg} (h : PBus w b F g pg c d) : c.ok ∧ d.ok := by
  obtain ⟨p, Fm, h1, h2, h3, h4, h5, h6, h7⟩ := h
  exact h7
set_option maxRecDepth 100000 in
theorem bnew_any (p : Nat) (F : Nat → Prop) (g : Int → Int) (pg : Int → Bool) (c d : Sg) (hc : c.ok) (hd : d.ok) (w : World) (hm : PMem w p F g pg) :
  Calls Try.prog 10 #[.pointer (some ⟨p, 0, none⟩), .agg #[.int .u32 c.b, .int .u32 c.z, .bool c.r, .bool c.q, .bool c.x], .agg #[.int .u32 d.b, .int .u32 d.z, .bool d.r, .bool d.q, .bool d.x]] w fun e w' => ∃ (b : Nat) (F' : Nat → Prop), e = .returned (.pointer (some ⟨b, 0, none⟩)) ∧ (∀ k, F' k → F k ∨ w.heap.size ≤ k) ∧ PBus w' b F' g pg c d ∧ Below w.heap.size w w' := by
  have HM := Lib.hid hm
  clear hm
  go_enter Try.func10, Try.ntmps10
  go_wp2
  go_ret
  have hB := below_last (below_last (below_last (Below.refl _ w) (.cells #[.int .u32 c.b, .int .u32 c.z, .bool c.r, .bool c.q, .bool c.x] 24)) (.cells #[.int .u32 d.b, .int .u32 d.z, .bool d.r, .bool d.q, .bool d.x] 24)) (.cells #[.pointer (some ⟨p, 0, none⟩), .int .u32 c.b, .int .u32 c.z, .bool c.r, .bool c.q, .bool c.x, .int .u32 d.b, .int .u32 d.z, .bool d.r, .bool d.q, .bool d.x] 55)
  refine ⟨w.heap.size + 2, fun k => F k ∨ k = w.heap.size + 2, by first | rfl | (simp; done), fun k hk => hk.elim .inl (fun h => .inr (by omega)), ⟨p, F, HM.out.but (G := fun _ => False) (But.of_below hB) (fun _ _ h => h), ⟨?_, ?_, ?_, ?_, ?_, ?_, ?_, ?_, ?_, ?_, ?_, ?_⟩, fun k hk => .inl hk, .inr rfl, fun h => by have := HM.out.lt _ h; omega, fun k hk => hk.elim (fun h => by have := HM.out.lt _ h; simp; omega) (fun h => by subst h; simp), hc, hd⟩, hB⟩
  all_goals simp [go_sem]
theorem bmemory_any (b : Nat) (F : Nat → Prop) (g : Int → Int) (pg : Int → Bool) (c d : Sg) (w : World) (hb : PBus w b F g pg c d) :
  Calls Try.prog 12 #[.pointer (some ⟨b, 0, none⟩)] w fun e w' => ∃ (p : Nat) (Fm : Nat → Prop), e = .returned (.pointer (some ⟨p, 0, none⟩)) ∧ (∀ k, Fm k → F k) ∧ PMem w' p Fm g pg ∧ Below w.heap.size w w' := by
  obtain ⟨p, Fm, h1, h2, h3, h4, h5, h6, h7⟩ := hb
  have hm := h2.m
  have H1 := Lib.hid h1
  have H3 : ∀ k, Fm k → F k := h3
  clear h1 h2 h3 h4 h5 h6 h7
  go_enter Try.func12, Try.ntmps12
  go_wp2
  go_ret
  exact ⟨p, Fm, rfl, H3, H1.out, Below.refl _ _⟩
theorem ld_ok {d : Sg} {off size : Int} (h : ldE d off size = 0) : atV d.b d.z d.r d.q d.x off (widN size) 0 = d.b + off ∧ d.b + off < 4294967296 := by
  unfold ldE atE at h
  unfold atV
  cases hm : mayB d.r d.q d.x 0
  · rw [hm] at h; simp at h
  · cases hf : fitB d.b d.z off (widN size)
    · rw [hm, hf] at h; simp at h
    · exact ⟨rfl, (fit_lt _ _ _ _ hf).2.1⟩
theorem st_ok {d : Sg} {off size : Int} (h : stE d off size = 0) : atV d.b d.z d.r d.q d.x off (widN size) 1 = d.b + off ∧ d.b + off < 4294967296 := by
  unfold stE atE at h
  unfold atV
  cases hm : mayB d.r d.q d.x 1
  · rw [hm] at h; simp at h
  · cases hf : fitB d.b d.z off (widN size)
    · rw [hm, hf] at h; simp at h
    · exact ⟨rfl, (fit_lt _ _ _ _ hf).2.1⟩
theorem readN_wid (size : Int) : readN (widN size) = widN size := by
  have h0 := widN_lo size
  have h1 := widN_hi size
  unfold readN
  rw [if_neg (by omega), if_neg (by omega)]
  omega
set_option maxRecDepth 100000 in
set_option maxHeartbeats 4000000 in
theorem bload_any (b : Nat) (F : Nat → Prop) (g : Int → Int) (pg : Int → Bool) (c d : Sg) (off size : Int) (o0 : 0 ≤ off) (o1 : off < 4294967296) (w : World) (hb : PBus w b F g pg c d) :
  Calls Try.prog 14 #[.pointer (some ⟨b, 0, none⟩), .int .u32 off, .int .i64 size] w fun e w' => e = .returned (.tuple #[.int .u64 (ldV g d off size), .int .i64 (ldE d off size)]) ∧ Below w.heap.size w w' := by
  obtain ⟨p, Fm, h1, h2, h3, h4, h5, h6, h7, ⟨db0, db1⟩, dz0, dz1⟩ := hb
  have m0 := h2.m
  have c1 := h2.d1
  have c2 := h2.d2
  have c3 := h2.d3
  have c4 := h2.d4
  have c5 := h2.d5
  have hby := h1.byte
  by_cases he : ldE d off size = 0
  · obtain ⟨hv, hlt⟩ := ld_ok he
    have HV := Lib.hid (show ldV g d off size = sumN (fun i => g (place (d.b + off) i)) (widN size) by unfold ldV; rw [if_pos he, leV_sum])
    have HE := Lib.hid he
    have H1 := Lib.hid h1
    have H2 := Lib.hid h2
    have HY := Lib.hid hby
    have HSV := Lib.hid hv
    clear hv he h1 h2 h3 h4 h5 h6 h7 hby
    go_enter Try.func14, Try.ntmps14
    go_wp2_with fail
    refine (counted_any _ _).mono ?_
    rintro e w1 ⟨rfl, rfl⟩
    go_wp2_with fail
    refine (sat_any d.b d.z d.r d.q d.x off _ 0 db0 db1 dz0 dz1 o0 o1 _).mono ?_
    rintro e w1 ⟨rfl, hb1⟩
    have m1 := hb1.cell (p := ⟨b, 0, none⟩) H2.out.lt
    rw [m0] at m1
    rw [HSV.out, show atE d.b d.z d.r d.q d.x off (widN size) 0 = 0 from HE.out]
    go_wp2_with fail
    refine (mread_any p Fm g pg (d.b + off) _ (by omega) hlt _ (H1.out.but (G := fun _ => False) (But.of_below hb1) (fun _ _ h => h))).mono ?_
    rintro e w2 ⟨v, rfl, hs, hb2⟩
    rw [readN_wid] at hs
    go_wp2_with fail
    refine (number_any v _ _ (widN_hi size) (fun i => HY.out _) _ hs).mono ?_
    rintro e w3 ⟨rfl, rfl⟩
    go_wp2_with fail
    go_ret2
    exact ⟨by rw [HV.out, HE.out]; rfl, hb1.trans (hb2.mono hb1.size)⟩
  · have HV := Lib.hid (show ldV g d off size = 0 by unfold ldV; rw [if_neg he])
    have hne : (ldE d off size == 0) = false := by simpa using he
    have HD := Lib.hid (show atE d.b d.z d.r d.q d.x off (widN size) 0 = ldE d off size from rfl)
    have H2 := Lib.hid h2
    clear he h1 h2 h3 h4 h5 h6 h7 hby
    go_enter Try.func14, Try.ntmps14
    go_wp2_with fail
    refine (counted_any _ _).mono ?_
    rintro e w1 ⟨rfl, rfl⟩
    go_wp2_with fail
    refine (sat_any d.b d.z d.r d.q d.x off _ 0 db0 db1 dz0 dz1 o0 o1 _).mono ?_
    rintro e w1 ⟨rfl, hb1⟩
    rw [HD.out]
    go_wp2_with fail
    go_ret2
    exact ⟨by rw [HV.out]; rfl, hb1⟩
theorem ft_le (c : Sg) (ip n : Int) : (ftN c ip n : Int) ≤ max n 0 ∧ ftN c ip n ≤ 15 := by
  unfold ftN clampF
  split
  · split
    · omega
    · split <;> omega
  · exact ⟨by omega, by omega⟩
theorem ft_yes {c : Sg} {ip n m : Int} (m0 : 1 ≤ m) (m1 : m ≤ 15) (mn : m ≤ n) (hi : (ftN c ip n : Int) ≤ m) (h : atE c.b c.z c.r c.q c.x ip m 2 = 0) :
    (ftN c ip n : Int) = m ∧ atV c.b c.z c.r c.q c.x ip m 2 = c.b + ip ∧ c.b + ip + m ≤ 4294967296 := by
  unfold atE at h
  unfold atV
  cases hm : mayB c.r c.q c.x 2
  · rw [hm] at h; simp at h
  · cases hf : fitB c.b c.z ip m
    · rw [hm, hf] at h; simp at h
    · obtain ⟨f1, f2, f3, f4⟩ := fit_lt _ _ _ _ hf
      rw [clampN_id m m0 (by omega)] at f3
      have hx : c.x = true := by simpa [mayB] using hm
      have hs : segR c.b c.z = true := by unfold segR; exact decide_eq_true f4
      refine ⟨?_, rfl, by omega⟩
      unfold ftN clampF at hi ⊢
      rw [hx, hs] at hi ⊢
      simp only [Bool.and_self, ↓reduceIte] at hi ⊢
      split <;> (try split) <;> omega
theorem ft_no {c : Sg} {ip n m : Int} (m0 : 1 ≤ m) (m1 : m ≤ 15) (hi : (ftN c ip n : Int) ≤ m) (h : ¬ atE c.b c.z c.r c.q c.x ip m 2 = 0) : (ftN c ip n : Int) ≤ m - 1 := by
  by_cases e : (ftN c ip n : Int) = m
  · exfalso
    apply h
    unfold ftN at e
    split at e
    · rename_i hc
      obtain ⟨hx, hs⟩ := by simpa using hc
      unfold atE
      rw [show mayB c.r c.q c.x 2 = true from by simpa [mayB] using hx, if_pos rfl, show fitB c.b c.z ip m = true from ?_, if_pos rfl]
      unfold fitB
      rw [hs, clampN_id m m0 (by omega), Bool.true_and]
      exact decide_eq_true (by omega)
    · omega
  · omega
set_option maxRecDepth 100000 in
set_option maxHeartbeats 4000000 in
theorem bfetch_any (b : Nat) (F : Nat → Prop) (g : Int → Int) (pg : Int → Bool) (c d : Sg) (ip n : Int) (i0 : 0 ≤ ip) (i1 : ip < 4294967296) (w : World) (hb : PBus w b F g pg c d) :
  Calls Try.prog 15 #[.pointer (some ⟨b, 0, none⟩), .int .u32 ip, .int .i64 n] w fun e w' => ∃ v, e = .returned v ∧ Slc .u8 w' v (ftN c ip n) (fun i => g (c.b + ip + i)) ∧ Below w.heap.size w w' := by
  obtain ⟨p, Fm, h1, h2, h3, h4, h5, h6, ⟨⟨db0, db1⟩, dz0, dz1⟩, h7⟩ := hb
  have H1 := Lib.hid h1
  have H2 := Lib.hid h2
  have hl := ft_le c ip n
  have HL : ∀ m : Int, m = n ∨ m = 15 → (ftN c ip n : Int) ≤ max m 0 := fun m hm => by omega
  have HL := Lib.hid HL
  clear h1 h2 h3 h4 h5 h6 h7 hl
  rcases Int.lt_or_le 15 n with hn | hn
  all_goals
    go_enter Try.func15, Try.ntmps15
    go_wp2
    go_loopw [2] (fun v2 wr => ∃ m : Int, m ≤ 15 ∧ m ≤ n ∧ (ftN c ip n : Int) ≤ max m 0 ∧ v2 = .int .i64 m ∧ Below w.heap.size w wr) (fun v2 _ => (intOf v2).toNat)
    case atStart => exact ⟨_, by omega, by omega, HL.out _ (by first | exact .inl rfl | exact .inr rfl), rfl, Below.refl _ _⟩
    case round =>
      obtain ⟨m, m15, mn, hft, rfl, hbr⟩ := hrel
      by_cases hm : 0 < m
      · have hA := H2.out.below hbr
        have HM := Lib.hid (H1.out.but (G := fun _ => False) (But.of_below hbr) (fun _ _ h => h))
        have a0 := hA.m
        have a1 := hA.c1
        have a2 := hA.c2
        have a3 := hA.c3
        have a4 := hA.c4
        have a5 := hA.c5
        have HA := Lib.hid hA
        have hft' : (ftN c ip n : Int) ≤ m := by omega
        clear hA hft
        by_cases he : atE c.b c.z c.r c.q c.x ip m 2 = 0
        · obtain ⟨e1, e2, e3⟩ := ft_yes (by omega) m15 mn hft' he
          have HE := Lib.hid he
          have HV := Lib.hid e2
          have HN := Lib.hid e1
          have hlt : c.b + ip < 4294967296 := by omega
          clear he e1 e2 hft'
          go_wp2_with fail
          refine (sat_any c.b c.z c.r c.q c.x ip m 2 db0 db1 dz0 dz1 i0 i1 _).mono ?_
          rintro e w1 ⟨rfl, hb1⟩
          have m1 := hb1.cell (p := ⟨b, 0, none⟩) HA.out.lt
          rw [a0] at m1
          rw [HE.out, HV.out]
          go_wp2_with fail
          refine (mread_any p Fm g pg (c.b + ip) m (by omega) hlt _ (HM.out.but (G := fun _ => False) (But.of_below hb1) (fun _ _ h => h))).mono ?_
          rintro e w2 ⟨v, rfl, hs, hb2⟩
          have HS := Lib.hid hs
          clear hs
          go_wp2_with fail
          go_ret
          refine ⟨v, rfl, ?_, hbr.trans ((hb1.trans (hb2.mono hb1.size)).mono hbr.size)⟩
          have er : readN m = ftN c ip n := by have := HN.out; unfold readN; rw [if_neg (by omega), if_neg (by omega)]; omega
          have hs := HS.out
          rw [er] at hs
          exact hs.congr fun i hi => by have := HN.out; congr 1; unfold place; omega
        · have hft2 := Lib.hid (ft_no (by omega) m15 hft' he)
          have HE := Lib.hid he
          have hne : (atE c.b c.z c.r c.q c.x ip m 2 == 0) = false := by simpa using he
          have m16 := m15
          clear he hft'
          go_wp2_with fail
          refine (sat_any c.b c.z c.r c.q c.x ip m 2 db0 db1 dz0 dz1 i0 i1 _).mono ?_
          rintro e w1 ⟨rfl, hb1⟩
          go_wp2_with fail
          go_roundw
          case rel => exact ⟨m - 1, by omega, by omega, by have := hft2.out; omega, rfl, hbr.trans (hb1.mono hbr.size)⟩
          case measure => simp [intOf]; omega
      · have HZ := Lib.hid (show ftN c ip n = 0 by omega)
        clear hft
        have hd : decide (0 < m) = false := decide_eq_false hm
        go_wp2
        go_ret
        exact ⟨_, rfl, .inl ⟨rfl, HZ.out⟩, hbr⟩
def grownW (w : World) (b : Nat) (d : Sg) (z : Int) : World := (((((w.setCell ⟨b, 6, none⟩ (.int .u32 d.b)).setCell ⟨b, 7, none⟩ (.int .u32 z)).setCell ⟨b, 8, none⟩ (.bool d.r)).setCell ⟨b, 9, none⟩ (.bool d.q)).setCell ⟨b, 10, none⟩ (.bool d.x))
theorem BAt.grow {w : World} {b p : Nat} {c d : Sg} (z : Int) (h : BAt w b p c d) : BAt (grownW w b d z) b p c ⟨d.b, z, d.r, d.q, d.x⟩ := by
  have n : ∀ i j : Nat, i ≠ j → (⟨b, i, none⟩ : Addr) ≠ ⟨b, j, none⟩ := fun i j h e => h (by injection e)
  have s : ∀ (i : Nat) (x v : Value) (j : Nat) (w : World), i ≠ j → w.cell? ⟨b, j, none⟩ = some x → (w.setCell ⟨b, i, none⟩ v).cell? ⟨b, j, none⟩ = some x := fun i x v j w hn hc => set_other v (n i j hn) hc
  have low : ∀ (j : Nat) (x : Value), j < 6 → w.cell? ⟨b, j, none⟩ = some x → (grownW w b d z).cell? ⟨b, j, none⟩ = some x := fun j x hj hc =>
    s 10 x _ j _ (by omega) (s 9 x _ j _ (by omega) (s 8 x _ j _ (by omega) (s 7 x _ j _ (by omega) (s 6 x _ j _ (by omega) hc))))
  have f7 := s 6 _ (.int .u32 d.b) 7 w (by omega) h.d2
  have f8 := s 7 _ (.int .u32 z) 8 _ (by omega) (s 6 _ (.int .u32 d.b) 8 w (by omega) h.d3)
  have f9 := s 8 _ (.bool d.r) 9 _ (by omega) (s 7 _ (.int .u32 z) 9 _ (by omega) (s 6 _ (.int .u32 d.b) 9 w (by omega) h.d4))
  have f10 := s 9 _ (.bool d.q) 10 _ (by omega) (s 8 _ (.bool d.r) 10 _ (by omega) (s 7 _ (.int .u32 z) 10 _ (by omega) (s 6 _ (.int .u32 d.b) 10 w (by omega) h.d5)))
  refine ⟨low 0 _ (by omega) h.m, low 1 _ (by omega) h.c1, low 2 _ (by omega) h.c2, low 3 _ (by omega) h.c3, low 4 _ (by omega) h.c4, low 5 _ (by omega) h.c5, ?_, ?_, ?_, ?_, ?_, fun o => by simp [grownW, h.fz o]⟩
  · exact s 10 _ _ 6 _ (by omega) (s 9 _ _ 6 _ (by omega) (s 8 _ _ 6 _ (by omega) (s 7 _ _ 6 _ (by omega) (set_same _ h.d1))))
  · exact s 10 _ _ 7 _ (by omega) (s 9 _ _ 7 _ (by omega) (s 8 _ _ 7 _ (by omega) (set_same _ f7)))
  · exact s 10 _ _ 8 _ (by omega) (s 9 _ _ 8 _ (by omega) (set_same _ f8))
  · exact s 10 _ _ 9 _ (by omega) (set_same _ f9)
  · exact set_same _ f10
theorem But.grow {F : Nat → Prop} {w0 w : World} {b : Nat} (d : Sg) (z : Int) (hF : F b) (h : But F w0 w) : But F w0 (grownW w b d z) :=
  ((((h.setCell (a := ⟨b, 6, none⟩) (fun _ => hF) _).setCell (a := ⟨b, 7, none⟩) (fun _ => hF) _).setCell (a := ⟨b, 8, none⟩) (fun _ => hF) _).setCell (a := ⟨b, 9, none⟩) (fun _ => hF) _).setCell (a := ⟨b, 10, none⟩) (fun _ => hF) _
set_option maxRecDepth 100000 in
set_option maxHeartbeats 4000000 in
theorem bgrow_any (b : Nat) (F : Nat → Prop) (g : Int → Int) (pg : Int → Bool) (c d : Sg) (z : Int) (z0 : 0 ≤ z) (z1 : z < 4294967296) (w : World) (hb : PBus w b F g pg c d) :
  Calls Try.prog 16 #[.pointer (some ⟨b, 0, none⟩), .int .u32 z] w fun e w' => ∃ F', e = .returned (.bool (growB d z)) ∧ (∀ k, F' k → F k ∨ w.heap.size ≤ k) ∧ PBus w' b F' g pg c (growS d z) ∧ But F w w' := by
  obtain ⟨p, Fm, h1, h2, h3, h4, h5, h6, hc, ⟨db0, db1⟩, dz0, dz1⟩ := hb
  have H0 : Hid (PBus w b F g pg c d) := Lib.hid ⟨p, Fm, h1, h2, h3, h4, h5, h6, hc, ⟨db0, db1⟩, dz0, dz1⟩
  have hlt := h2.lt
  have hB0 := BAt.below h2 (Below.refl _ w |>.alloc (Nat.le_refl _) (.cells #[.int .u32 d.b, .int .u32 d.z, .bool d.r, .bool d.q, .bool d.x] 24))
  have c1 := h2.d1
  have c2 := h2.d2
  have c3 := h2.d3
  have c4 := h2.d4
  have c5 := h2.d5
  have H1 := Lib.hid h1
  have H2 := Lib.hid h2
  have H3 := Lib.hid h3
  have H4 := Lib.hid h4
  have H5 := Lib.hid h5
  have H6 := Lib.hid h6
  have HC := Lib.hid hc
  clear h1 h2 h3 h4 h5 h6 hc hB0
  rcases Int.lt_or_le z d.z with hz | hz
  · have HV := Lib.hid (show growB d z = false by unfold growB; rw [decide_eq_false (by omega), Bool.false_and])
    go_enter Try.func16, Try.ntmps16
    go_wp2
    go_ret
    have hbl := below_last (Below.refl _ w) (.cells #[.int .u32 d.b, .int .u32 z, .bool d.r, .bool d.q, .bool d.x] 24)
    exact ⟨F, by rw [HV.out]; rfl, fun k h => .inl h, by rw [show growS d z = d by unfold growS; rw [HV.out]; rfl]; exact H0.out.but (G := fun _ => False) (But.of_below hbl) (fun _ _ h => h), But.of_below hbl⟩
  · go_enter Try.func16, Try.ntmps16
    go_wp2_with fail
    refine (sright_any d.b z d.r d.q d.x db0 db1 z0 z1 _).mono ?_
    rintro e w1 ⟨rfl, hb1⟩
    have hbl := below_last (Below.refl _ w) (.cells #[.int .u32 d.b, .int .u32 z, .bool d.r, .bool d.q, .bool d.x] 24)
    have hw1 : Below w.heap.size w w1 := hbl.trans (hb1.mono (by simp))
    have hA := H2.out.below hw1
    have hA1 := hA.d1
    have hA2 := hA.d2
    have hA3 := hA.d3
    have hA4 := hA.d4
    have hA5 := hA.d5
    have hAz := hA.fz
    have q1 : w1.cell? ⟨w.heap.size, 0, none⟩ = some (.int .u32 d.b) := by rw [hb1.cell (by simp)]; simp [go_sem]
    have q2 : w1.cell? ⟨w.heap.size, 1, none⟩ = some (.int .u32 z) := by rw [hb1.cell (by simp)]; simp [go_sem]
    have q3 : w1.cell? ⟨w.heap.size, 2, none⟩ = some (.bool d.r) := by rw [hb1.cell (by simp)]; simp [go_sem]
    have q4 : w1.cell? ⟨w.heap.size, 3, none⟩ = some (.bool d.q) := by rw [hb1.cell (by simp)]; simp [go_sem]
    have q5 : w1.cell? ⟨w.heap.size, 4, none⟩ = some (.bool d.x) := by rw [hb1.cell (by simp)]; simp [go_sem]
    have HA := Lib.hid hA
    have HB := Lib.hid hw1
    clear hA hw1 hbl hb1
    cases hs : segR d.b z
    · have HV := Lib.hid (show growB d z = false by unfold growB; rw [hs, Bool.and_false])
      clear hs
      go_wp2
      go_ret
      exact ⟨F, by rw [HV.out]; rfl, fun k h => .inl h, by rw [show growS d z = d by unfold growS; rw [HV.out]; rfl]; exact H0.out.but (G := fun _ => False) (But.of_below HB.out) (fun _ _ h => h), But.of_below HB.out⟩
    · have HV := Lib.hid (show growB d z = true by unfold growB; rw [hs, decide_eq_true hz]; rfl)
      clear hs
      go_wp2
      go_ret
      rw [show growS d z = ⟨d.b, z, d.r, d.q, d.x⟩ by unfold growS; rw [HV.out]; rfl, HV.out]
      have hbut := But.grow d z H4.out (But.of_below (F := F) HB.out)
      have hb1 : But (· = b) w1 (grownW w1 b d z) := But.grow d z rfl (But.refl _ _)
      refine ⟨F, rfl, fun k h => .inl h, ⟨p, Fm, ?_, BAt.grow z HA.out, H3.out, H4.out, H5.out, fun k hk => Nat.lt_of_lt_of_le (H6.out k hk) hbut.size, HC.out, ⟨db0, db1⟩, z0, z1⟩, hbut⟩
      exact (H1.out.but (G := fun _ => False) (But.of_below HB.out) (fun _ _ h => h)).but hb1 (fun k hk e => H5.out (e ▸ hk))
theorem slice_row (k n : Nat) (hn : n ≤ 8) (w : World) :
    (Instr.sliceAt 59 (.pointer (some ⟨k, 0, none⟩)) none (some (.int .i64 (n : Int))) none).run Try.prog w = .ok (.slice (some ⟨k, 0, none⟩) n 8) w := by
  have hA : Try.prog.arrayLen 59 = 8 := by kernel_rfl
  have h := run_sliceAt_array_h (P := Try.prog) w 59 ⟨k, 0, none⟩ (by rw [hA]; exact Try.underlying59) .i64 (n : Int) (by omega) (by rw [hA]; omega)
  have hz : (sizeOf (Try.prog.elem 59)).run Try.prog w = .ok 1 w := by kernel_rfl
  rw [h, hA]
  simp [Result.andThen, slicedAt, hz, Addr.add]
set_option maxRecDepth 100000 in
set_option maxHeartbeats 4000000 in
theorem bstore_any (b : Nat) (F : Nat → Prop) (g : Int → Int) (pg : Int → Bool) (c d : Sg) (off size v : Int) (o0 : 0 ≤ off) (o1 : off < 4294967296) (v0 : 0 ≤ v) (v1 : v < 18446744073709551616) (w : World) (hb : PBus w b F g pg c d) :
  Calls Try.prog 11 #[.pointer (some ⟨b, 0, none⟩), .int .u32 off, .int .i64 size, .int .u64 v] w fun e w' => ∃ F', e = .returned (.int .i64 (stE d off size)) ∧ (∀ k, F' k → F k ∨ w.heap.size ≤ k) ∧ PBus w' b F' (stG g d off size v) (stP pg d off size) c d ∧ But F w w' := by
  have H0 := Lib.hid hb
  obtain ⟨p, Fm, h1, h2, h3, h4, h5, h6, hc, ⟨db0, db1⟩, dz0, dz1⟩ := hb
  have m0 := h2.m
  have c1 := h2.d1
  have c2 := h2.d2
  have c3 := h2.d3
  have c4 := h2.d4
  have c5 := h2.d5
  have H1 := Lib.hid h1
  have H2 := Lib.hid h2
  have H3 := Lib.hid h3
  have H4 := Lib.hid h4
  have H5 := Lib.hid h5
  have H6 := Lib.hid h6
  have HC := Lib.hid hc
  clear h1 h2 h3 h4 h5 h6 hc
  by_cases he : stE d off size = 0
  · obtain ⟨hv, hlt⟩ := st_ok he
    have HG := Lib.hid (show stG g d off size v = writeG g (d.b + off) (byteOf v) (widN size) by unfold stG; rw [if_pos he])
    have HP := Lib.hid (show stP pg d off size = writeP pg (d.b + off) (widN size) by unfold stP; rw [if_pos he])
    have HE := Lib.hid he
    have HV := Lib.hid hv
    have hw0 := widN_lo size
    have hw8 := widN_hi size
    clear hv he
    go_enter Try.func11, Try.ntmps11
    go_wp2_with fail
    refine (counted_any _ _).mono ?_
    rintro e w1 ⟨rfl, rfl⟩
    go_wp2_with fail
    refine (sat_any d.b d.z d.r d.q d.x off _ 1 db0 db1 dz0 dz1 o0 o1 _).mono ?_
    rintro e w1 ⟨rfl, hb1⟩
    rw [HV.out, show atE d.b d.z d.r d.q d.x off (widN size) 1 = 0 from HE.out]
    go_wp2_with fail
    refine (spread_any v v0 v1 _).mono ?_
    rintro e w2 ⟨rfl, hb2⟩
    rw [spreadC_8]
    have hb3 := hb1.trans (hb2.mono hb1.size)
    have B3 := Lib.hid hb3
    clear hb1 hb2 hb3
    go_upto_region 6 with (fail)
    rw [← spreadC_8]
    have hal : Below w2.heap.size w2 (w2.alloc (.cells (spreadC v 8) 59)) := below_last (Below.refl _ _) _
    have hBW : Below w.heap.size w (w2.alloc (.cells (spreadC v 8) 59)) := B3.out.trans (hal.mono B3.out.size)
    have hcells : ∀ i, i < 8 → (w2.alloc (.cells (spreadC v 8) 59)).cell? ⟨w2.heap.size, i, none⟩ = some (.int .u8 (byteOf v i)) := fun i hi => by
      have h8 : i = 0 ∨ i = 1 ∨ i = 2 ∨ i = 3 ∨ i = 4 ∨ i = 5 ∨ i = 6 ∨ i = 7 := by omega
      rcases h8 with rfl | rfl | rfl | rfl | rfl | rfl | rfl | rfl <;> simp [go_sem, spreadC_8]
    have hz : w2.heap.size < (w2.alloc (.cells (spreadC v 8) 59)).heap.size := by simp
    have hsl := fun w => slice_row w2.heap.size (widN size) hw8 w
    have hw2 := B3.out.size
    have m1 := hBW.cell (p := ⟨b, 0, none⟩) H2.out.lt
    rw [m0] at m1
    generalize w2.alloc (.cells (spreadC v 8) 59) = W at *
    have HW := Lib.hid hBW
    have HX := Lib.hid hcells
    clear hal hBW hcells m0 c1 c2 c3 c4 c5
    go_still_tail 7, (by kernel_rfl)
    change wpList _ _ _ _ _ W.drew
    have HW2 := Lib.hid (show Below w.heap.size w W.drew from HW.out.drew)
    have hs : Slc .u8 W.drew (.slice (some ⟨w2.heap.size, 0, none⟩) (widN size) 8) (widN size) (byteOf v) := .inr ⟨_, _, rfl, hw8, fun i hi => by rw [addr0, Nat.zero_add]; exact HX.out i (by omega)⟩
    have HS := Lib.hid hs
    generalize W.drew = V at *
    clear hs
    go_wp2_with fail
    refine (mwrite_any p Fm g pg (d.b + off) _ (widN size) (byteOf v) (by omega) hlt (by omega) (byteOf_ok v) _ (H1.out.but (G := fun _ => False) (But.of_below HW2.out) (fun _ _ h => h)) HS.out (fun _ k hk => ?_)).mono ?_
    · have hk : w2.heap.size = k := by injection hk
      intro hf
      have := H6.out k (H3.out k hf)
      omega
    · rintro e w3 ⟨F', rfl, hF', hm', hb'⟩
      have hbF : But F w w3 := (But.of_below (F := F) HW2.out).trans hb' (fun i _ hi => H3.out i hi)
      have hA := (H2.out.below HW2.out).but hb' H5.out
      have hsz := HW2.out.size
      have HF := Lib.hid hF'
      have HM := Lib.hid hm'
      clear hF' hm' hb'
      go_wp2_with fail
      go_ret
      refine ⟨fun k => F' k ∨ F k, by rw [HE.out]; rfl, fun k hk => hk.elim (fun h => (HF.out k h).elim (fun h => .inl (H3.out k h)) (fun h => .inr (by omega))) .inl, ⟨p, F', ?_, hA, fun k h => .inl h, .inr H4.out, fun h => (HF.out b h).elim H5.out (fun h => by have := H2.out.lt; omega), fun k hk => hk.elim (fun h => HM.out.lt k h) (fun h => Nat.lt_of_lt_of_le (H6.out k h) hbF.size), HC.out, ⟨db0, db1⟩, dz0, dz1⟩, hbF⟩
      rw [HG.out, HP.out]
      exact HM.out
  · have HV := Lib.hid (show stG g d off size v = g by unfold stG; rw [if_neg he])
    have HP := Lib.hid (show stP pg d off size = pg by unfold stP; rw [if_neg he])
    have hne : (stE d off size == 0) = false := by simpa using he
    have HD := Lib.hid (show atE d.b d.z d.r d.q d.x off (widN size) 1 = stE d off size from rfl)
    clear he
    go_enter Try.func11, Try.ntmps11
    go_wp2_with fail
    refine (counted_any _ _).mono ?_
    rintro e w1 ⟨rfl, rfl⟩
    go_wp2_with fail
    refine (sat_any d.b d.z d.r d.q d.x off _ 1 db0 db1 dz0 dz1 o0 o1 _).mono ?_
    rintro e w1 ⟨rfl, hb1⟩
    rw [HD.out]
    go_wp2_with fail
    go_ret
    exact ⟨F, rfl, fun k h => .inl h, by rw [HV.out, HP.out]; exact H0.out.but (G := fun _ => False) (But.of_below hb1) (fun _ _ h => h), But.of_below hb1⟩
end Go.Proofs.Ytkmoefgoolhegaa
