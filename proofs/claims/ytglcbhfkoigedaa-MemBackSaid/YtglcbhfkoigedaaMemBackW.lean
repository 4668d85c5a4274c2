/- What is written is read, wherever it lies, and bytes beside it stay. -/
import Derived.Test.YtglcbhfkoigedaaKnown6
import Derived.Deep.RegionHeld3
namespace Go.Proofs.Ytglcbhfkoigedaa
open Go.ChangeShapes Go.WideShapes Go.ChangeAt Go.RowKit

theorem place_inj (a : Int) (i j : Nat) (hi : i < 4294967296) (hj : j < 4294967296) (h : place a i = place a j) : i = j := by unfold place at h; omega
theorem writeG_in (g : Int → Int) (a : Int) (bs : Nat → Int) : ∀ (L i : Nat), L ≤ 4294967296 → i < L → writeG g a bs L (place a i) = bs i
  | 0, _, _, h => by omega
  | L + 1, i, hL, h => by
    unfold writeG setG
    by_cases e : i = L
    · subst e; rw [if_pos rfl]
    · rw [if_neg (fun h2 => e (place_inj a i L (by omega) (by omega) h2))]
      exact writeG_in g a bs L i (by omega) (by omega)
theorem writeG_out (g : Int → Int) (a : Int) (bs : Nat → Int) (q : Int) : ∀ (L : Nat), (∀ i, i < L → q ≠ place a i) → writeG g a bs L q = g q
  | 0, _ => rfl
  | L + 1, h => by
    unfold writeG setG
    rw [if_neg (h L (by omega))]
    exact writeG_out g a bs q L fun i hi => h i (by omega)
theorem back_facts (a k : Int) (bs : Nat → Int) (L : Nat) (hL : L ≤ 5000) :
    (∀ i, i < L → writeG (setG (setG (fun _ => 0) ((a - 1) % 4294967296) k) ((a + L) % 4294967296) k) a bs L (place a i) = bs i) ∧
    writeG (setG (setG (fun _ => 0) ((a - 1) % 4294967296) k) ((a + L) % 4294967296) k) a bs L ((a - 1) % 4294967296) = k ∧
    writeG (setG (setG (fun _ => 0) ((a - 1) % 4294967296) k) ((a + L) % 4294967296) k) a bs L ((a + L) % 4294967296) = k ∧
    writeG (setG (setG (fun _ => 0) ((a - 1) % 4294967296) k) ((a + L) % 4294967296) k) a bs L ((a + L + 1) % 4294967296) = 0 := by
  refine ⟨fun i hi => writeG_in _ _ _ _ _ (by omega) hi, ?_, ?_, ?_⟩
  all_goals
    rw [writeG_out _ _ _ _ _ (fun i hi => by unfold place; omega)]
    unfold setG
  · rw [if_neg (by omega), if_pos rfl]
  · rw [if_pos rfl]
  · rw [if_neg (by omega), if_neg (by omega)]
set_option maxRecDepth 100000 in
set_option maxHeartbeats 8000000 in
theorem memback_walk (a k : Int) (v : Value) (L : Nat) (bs : Nat → Int) (w : World) (a0 : 0 ≤ a) (a1 : a < 4294967296) (k0 : 0 ≤ k) (k1 : k < 256) (hs : Slc .u8 w v L bs) (hb : ∀ i, 0 ≤ bs i ∧ bs i < 256) (hL : L ≤ maxLen) :
    Calls Try.prog 4 #[.int .u32 a, v, .int .u8 k] w fun e w' => e = .returned (.bool true) ∧ Below w.heap.size w w' := by
  unfold maxLen at hL
  have hown := fun (h : 0 < L) => hs.own_lt h
  obtain ⟨x, cap, rfl⟩ := hs.len
  go_enter Try.func4, Try.ntmps4
  go_wp2_with fail
  refine (known6_any _).mono ?_
  rintro e w0 ⟨rfl, B0⟩
  have s0 := hs.below B0
  clear hs
  by_cases hbig : 5000 < L
  · have hd : decide ((5000 : Int) < (L : Int)) = true := decide_eq_true (by omega)
    go_wp2
    go_ret
    exact ⟨rfl, B0⟩
  have hd : decide ((5000 : Int) < (L : Int)) = false := decide_eq_false (by omega)
  have hL' : L ≤ 5000 := by omega
  clear hbig
  go_wp2_with fail
  refine (min_new (w0 := w) _ B0).mono ?_
  rintro e w1 ⟨p, F, rfl, M1, _, hb1⟩
  have s1 := s0.below hb1
  clear s0 B0 hb1
  go_wp2_with fail
  refine (min_set M1 _ k (by omega) (by omega) k0 k1).mono ?_
  rintro e w2 ⟨F2, rfl, M2, hF2, hb2⟩
  have s2 := s1.but hb2 (fun h j hj hf => by have := hown h j hj; have := M1.own j hf; omega)
  clear s1 M1 hb2 hF2
  go_wp2_with fail
  refine (min_set M2 _ k (by omega) (by omega) k0 k1).mono ?_
  rintro e w3 ⟨F3, rfl, M3, hF3, hb3⟩
  have s3 := s2.but hb3 (fun h j hj hf => by have := hown h j hj; have := M2.own j hf; omega)
  clear s2 M2 hb3 hF3
  go_wp2_with fail
  refine (min_write M3 a _ L bs a0 a1 (by omega) hb s3 (fun h j hj hf => by have := hown h j hj; have := M3.own j hf; omega)).mono ?_
  rintro e w4 ⟨F4, rfl, M4, hF4, hb4⟩
  have s4 := s3.but hb4 (fun h j hj hf => by have := hown h j hj; have := M3.own j hf; omega)
  clear s3 M3 hb4 hF4
  obtain ⟨f1, f2, f3, f4⟩ := back_facts a k bs L hL'
  generalize hG : writeG (setG (setG (fun _ => 0) ((a - 1) % 4294967296) k) ((a + L) % 4294967296) k) a bs L = G at *
  generalize hP : writeP (setP (setP (fun _ => false) ((a - 1) % 4294967296)) ((a + L) % 4294967296)) a L = PG at *
  clear hG hP
  have hr1 : readN (L : Int) = L := by unfold readN; rw [if_neg (by omega), if_neg (by omega)]; omega
  have hr2 : readN (-1) = 0 := rfl
  have M4d := M4.drew
  have s4d : Slc .u8 w4.drew (.slice x L cap) L bs := s4.but (F := fun _ => False) ((But.refl _ _).drew) (fun _ _ _ h => h)
  have c4 := s4d.str (fun i _ => hb i)
  obtain ⟨p1, hp1⟩ : ∃ q, q = (a - 1) % 4294967296 := ⟨_, rfl⟩
  obtain ⟨p2, hp2⟩ : ∃ q, q = (a + L) % 4294967296 := ⟨_, rfl⟩
  obtain ⟨p3, hp3⟩ : ∃ q, q = (a + L + 1) % 4294967296 := ⟨_, rfl⟩
  rw [← hp1] at f2
  rw [← hp2] at f3
  rw [← hp3] at f4
  have e1 : IntKind.u32.wrap (a - 1) = p1 := by rw [IntKind.wrap_u32]; omega
  have e2 : IntKind.u32.wrap (a + (L : Int)) = p2 := by rw [IntKind.wrap_u32]; omega
  have e3 : IntKind.u32.wrap (p2 + 1) = p3 := by rw [IntKind.wrap_u32]; omega
  have p10 : 0 ≤ p1 := by omega
  have p11 : p1 < 4294967296 := by omega
  have p20 : 0 ≤ p2 := by omega
  have p21 : p2 < 4294967296 := by omega
  have p30 : 0 ≤ p3 := by omega
  have p31 : p3 < 4294967296 := by omega
  rw [← hp1, ← hp2] 
  clear hp1 hp2 hp3 s4 M4
  have hf1 := Lib.hid f1
  have g2 := Lib.hid f2
  have g3 := Lib.hid f3
  have g4 := Lib.hid f4
  have hq1 := Lib.hid hr1
  have hq2 := Lib.hid hr2
  clear f1 f2 f3 f4 hr1 hr2
  go_wp2_with fail
  have hS0 : MIn w w4.drew p F4 G PG ∧ Slc .u8 w4.drew (.slice x L cap) L bs := ⟨M4d, s4d⟩
  have rd1 : ∀ u, (MIn w u p F4 G PG ∧ Slc .u8 u (.slice x L cap) L bs) → Calls Try.prog 15 #[.pointer (some ⟨p, 0, none⟩), .int .u32 a, .int .i64 (L : Int)] u fun e u' => ∃ v, e = .returned v ∧ (convert 30 9 v).run Try.prog u' = .ok (.string (strOf L bs)) u' ∧ (MIn w u' p F4 G PG ∧ Slc .u8 u' (.slice x L cap) L bs) := fun u hu =>
    (min_read hu.1 a (L : Int) a0 a1).mono fun _ _ ⟨v, he, hs, hm, hb'⟩ => ⟨v, he, (by rw [hq1.out] at hs; exact (hs.congr hf1.out).str (fun i _ => hb i)), hm, hu.2.below hb'⟩
  have rd2 : ∀ u, (MIn w u p F4 G PG ∧ Slc .u8 u (.slice x L cap) L bs) → Calls Try.prog 15 #[.pointer (some ⟨p, 0, none⟩), .int .u32 a, .int .i64 (-1)] u fun e u' => ∃ y c, e = .returned (.slice y 0 c) ∧ (MIn w u' p F4 G PG ∧ Slc .u8 u' (.slice x L cap) L bs) := fun u hu =>
    (min_read hu.1 a (-1) a0 a1).mono fun _ _ ⟨v, he, hs, hm, hb'⟩ => by
      rw [hq2.out] at hs
      obtain ⟨y, c, rfl⟩ := hs.len
      exact ⟨y, c, he, hm, hu.2.below hb'⟩
  have gt : ∀ (q r : Int), 0 ≤ q → q < 4294967296 → Hid (G q = r) → ∀ u, (MIn w u p F4 G PG ∧ Slc .u8 u (.slice x L cap) L bs) → Calls Try.prog 12 #[.pointer (some ⟨p, 0, none⟩), .int .u32 q] u fun e u' => e = .returned (.int .u8 r) ∧ (MIn w u' p F4 G PG ∧ Slc .u8 u' (.slice x L cap) L bs) := fun q r q0 q1 hr u hu =>
    (min_get hu.1 q q0 q1).mono fun _ _ ⟨he, hm, hb'⟩ => ⟨by rw [he, hr.out], hm, hu.2.below hb'⟩
  have gt1 := gt p1 k p10 p11 g2
  have gt2 := gt p2 k p20 p21 g3
  have gt3 := gt p3 0 p30 p31 g4
  have cs : ∀ u, Slc .u8 u (.slice x L cap) L bs → (convert 30 9 (.slice x L cap)).run Try.prog u = .ok (.string (strOf L bs)) u := fun u hu => hu.str (fun i _ => hb i)
  clear gt g2 g3 g4 hq1 hq2 hf1 M4d s4d
  go_region_held (fun w' => MIn w w' p F4 G PG ∧ Slc .u8 w' (.slice x L cap) L bs) (first | exact hS0 | assumption | go_keep)
    (first | (go_at_call 15; (first | ((with_reducible refine (rd1 _ ?_).mono ?_); (first | assumption | simp [*]); rintro e w5 ⟨v5, rfl, cv, hS'⟩; have cb := cs _ hS'.2) | ((with_reducible refine (rd2 _ ?_).mono ?_); (first | assumption | simp [*]); rintro e w6 ⟨y6, c6, rfl, hS'⟩))) | (go_at_call 12; (first | ((with_reducible refine (gt1 _ ?_).mono ?_); (first | assumption | simp [*]); rintro e w' ⟨rfl, hS'⟩) | ((with_reducible refine (gt2 _ ?_).mono ?_); (first | assumption | simp [*]); rintro e w' ⟨rfl, hS'⟩) | ((with_reducible refine (gt3 _ ?_).mono ?_); (first | assumption | simp [*]); rintro e w' ⟨rfl, hS'⟩))))
  all_goals
    go_wp2_with fail
    go_ret
    exact ⟨by simp, by first | exact hS'.1.low | exact hHeld.1.low⟩
theorem memback_walk' (a : Int) (v : Value) (L : Nat) (bs : Nat → Int) (k : Int) (w : World) (a0 : 0 ≤ a) (a1 : a < 4294967296) (hs : Slc .u8 w v L bs) (hb : ∀ i, 0 ≤ bs i ∧ bs i < 256) (hL : L ≤ maxLen) (k0 : 0 ≤ k) (k1 : k < 256) :
    Calls Try.prog 4 #[.int .u32 a, v, .int .u8 k] w fun e w' => e = .returned (.bool true) ∧ Below w.heap.size w w' := memback_walk a k v L bs w a0 a1 k0 k1 hs hb hL
end Go.Proofs.Ytglcbhfkoigedaa
