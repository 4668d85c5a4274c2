/- Plain arithmetic of layer 4: what doubles of whole numbers, their sums, products, quotients, roots are, by the model's own IEEE 754. No program is named here. -/
import Derived.Test.YtjapmkaapciegaaPure1
import Derived.Laws.FloatArith
namespace Go.Proofs.Ytjapmkaapciegaa
open Ieee Go.RowKit

theorem d_binade : double.binade = 4503599627370496 := by decide
theorem d_sign : double.signWeight = 9223372036854775808 := by decide
theorem d_inf : double.infRung = 9218868437227405312 := by decide
theorem d_least : double.leastPlace = -1074 := by decide
theorem d_frac : double.fractionBits = 52 := rfl

/-- What is cut to the nearest, to even, without the shortcut for long numbers. -/
def rnd (n d : Nat) : Nat := n / 2 ^ d + (decide (2 ^ d < 2 * (n % 2 ^ d)) || (2 ^ d == 2 * (n % 2 ^ d) && n / 2 ^ d % 2 == 1)).toNat
theorem cut_rnd (s : Bool) (n d : Nat) : Toward.even.cut s n d = rnd n d := by
  unfold Toward.cut rnd
  dsimp only
  rw [Nat.shiftLeft_eq, Nat.one_mul]
  by_cases h : d ≤ n.log2 + 2
  · rw [Nat.min_eq_left h]
  · rw [Nat.min_eq_right (by omega)]
    have h1 : n < 2 ^ (n.log2 + 1) := Nat.lt_log2_self
    have h2 : 2 ^ (n.log2 + 2) = 2 * 2 ^ (n.log2 + 1) := by rw [Nat.pow_succ, Nat.mul_comm]
    have h3 : 2 ^ (n.log2 + 2) ≤ 2 ^ d := Nat.pow_le_pow_right (by decide) (by omega)
    rw [Nat.div_eq_of_lt (by omega), Nat.mod_eq_of_lt (show n < 2 ^ (n.log2 + 2) by omega), Nat.div_eq_of_lt (by omega), Nat.mod_eq_of_lt (show n < 2 ^ d by omega)]
    simp
    rw [decide_eq_false (by omega), decide_eq_false (by omega)]
theorem cut_zero (s : Bool) (n d : Nat) : Toward.zero.cut s n d = n / 2 ^ d := by
  unfold Toward.cut
  dsimp only
  rw [Nat.shiftLeft_eq, Nat.one_mul]
  simp
  by_cases h : d ≤ n.log2 + 2
  · rw [Nat.min_eq_left h]
  · rw [Nat.min_eq_right (by omega)]
    have h1 : n < 2 ^ (n.log2 + 1) := Nat.lt_log2_self
    have h2 : 2 ^ (n.log2 + 2) = 2 * 2 ^ (n.log2 + 1) := by rw [Nat.pow_succ, Nat.mul_comm]
    have h3 : 2 ^ (n.log2 + 2) ≤ 2 ^ d := Nat.pow_le_pow_right (by decide) (by omega)
    rw [Nat.div_eq_of_lt (by omega), Nat.div_eq_of_lt (by omega)]
theorem rnd_zero (n : Nat) : rnd n 0 = n := by
  unfold rnd
  simp
  omega
theorem rnd_scale (n d t : Nat) : rnd (n * 2 ^ t) (d + t) = rnd n d := by
  unfold rnd
  have hp : 0 < 2 ^ t := Nat.two_pow_pos t
  rw [Nat.pow_add, Nat.mul_div_mul_right _ _ hp, Nat.mul_mod_mul_right]
  have e1 : decide (2 ^ d * 2 ^ t < 2 * (n % 2 ^ d * 2 ^ t)) = decide (2 ^ d < 2 * (n % 2 ^ d)) := by
    rw [← Nat.mul_assoc]
    exact decide_eq_decide.2 (Nat.mul_lt_mul_right hp)
  have e2 : (2 ^ d * 2 ^ t == 2 * (n % 2 ^ d * 2 ^ t)) = (2 ^ d == 2 * (n % 2 ^ d)) := by
    rw [← Nat.mul_assoc, Bool.eq_iff_iff, beq_iff_eq, beq_iff_eq]
    exact Nat.mul_left_inj (by omega)
  rw [e1, e2]
theorem rnd_exact (n t : Nat) : rnd (n * 2 ^ t) t = n := by
  have h := rnd_scale n 0 t
  rw [rnd_zero, Nat.zero_add] at h
  exact h
/-- To cut keeps an order with whole numbers. -/
theorem rnd_ge (n d c : Nat) (h : c * 2 ^ d ≤ n) : c ≤ rnd n d := by
  unfold rnd
  have : c ≤ n / 2 ^ d := (Nat.le_div_iff_mul_le (Nat.two_pow_pos d)).2 h
  omega
theorem rnd_le (n d c : Nat) (h : n ≤ c * 2 ^ d) : rnd n d ≤ c := by
  unfold rnd
  have hp : 0 < 2 ^ d := Nat.two_pow_pos d
  have h1 := Nat.div_add_mod n (2 ^ d)
  by_cases hr : n % 2 ^ d = 0
  · rw [hr]
    have h2 : n / 2 ^ d ≤ c := Nat.div_le_of_le_mul (by rw [Nat.mul_comm]; exact h)
    rw [decide_eq_false (by omega), beq_eq_false_iff_ne.2 (by omega)]
    simpa using h2
  · have h2 : n / 2 ^ d < c := by
      refine Nat.lt_of_mul_lt_mul_left (a := 2 ^ d) ?_
      rw [Nat.mul_comm (2 ^ d) c]
      omega
    have h3 : ∀ b : Bool, b.toNat ≤ 1 := by intro b; cases b <;> decide
    have := h3 (decide (2 ^ d < 2 * (n % 2 ^ d)) || (2 ^ d == 2 * (n % 2 ^ d) && n / 2 ^ d % 2 == 1))
    omega
theorem log2_mul_pow (n t : Nat) (h : n ≠ 0) : (n * 2 ^ t).log2 = n.log2 + t := by
  have h1 : 2 ^ n.log2 ≤ n := Nat.log2_self_le h
  have h2 : n < 2 ^ (n.log2 + 1) := Nat.lt_log2_self
  have hn : n * 2 ^ t ≠ 0 := Nat.mul_ne_zero h (by have := Nat.two_pow_pos t; omega)
  rw [Nat.log2_eq_iff hn]
  constructor
  · rw [Nat.pow_add]; exact Nat.mul_le_mul_right _ h1
  · rw [show n.log2 + t + 1 = n.log2 + 1 + t by omega, Nat.pow_add]; exact Nat.mul_lt_mul_of_pos_right h2 (Nat.two_pow_pos t)

/-- The nearest double of a number, its last kept place named. -/
theorem nearest_def (s : Bool) (n : Nat) (p : Int) (h : n ≠ 0) : double.nearest s n p =
    double.word s (min ((max (p + n.log2 - 52) (-1074) + 1074).toNat * 4503599627370496 + rnd (n * 2 ^ (p - max (p + n.log2 - 52) (-1074)).toNat) (max (p + n.log2 - 52) (-1074) - p).toNat) 9218868437227405312) := by
  unfold Format.nearest
  rw [if_neg h, d_least, d_binade, d_inf, d_frac]
  dsimp only
  rw [cut_rnd, Nat.shiftLeft_eq, Int.sub_neg]
  rfl
theorem nearest_zero (s : Bool) (p : Int) : double.nearest s 0 p = double.word s 0 := by
  unfold Format.nearest; rw [if_pos rfl]
theorem nearest_scale (s : Bool) (n t : Nat) (p : Int) : double.nearest s (n * 2 ^ t) p = double.nearest s n (p + t) := by
  by_cases h : n = 0
  · subst h; rw [Nat.zero_mul, nearest_zero, nearest_zero]
  · have hn : n * 2 ^ t ≠ 0 := Nat.mul_ne_zero h (by have := Nat.two_pow_pos t; omega)
    rw [nearest_def _ _ _ hn, nearest_def _ _ _ h, log2_mul_pow n t h]
    rw [show p + ((n.log2 + t : Nat) : Int) - 52 = p + t + n.log2 - 52 by omega]
    generalize max (p + t + n.log2 - 52) (-1074) = l
    have e : rnd (n * 2 ^ t * 2 ^ (p - l).toNat) (l - p).toNat = rnd (n * 2 ^ (p + t - l).toNat) (l - (p + t)).toNat := by
      by_cases h1 : l ≤ p
      · rw [show (l - p).toNat = 0 by omega, show (l - (p + t)).toNat = 0 by omega, show (p + t - l).toNat = t + (p - l).toNat by omega, Nat.pow_add, Nat.mul_assoc]
      · rw [show (p - l).toNat = 0 by omega, Nat.pow_zero, Nat.mul_one]
        by_cases h2 : l ≤ p + t
        · rw [show (l - (p + t)).toNat = 0 by omega, rnd_zero]
          have h3 := rnd_exact (n * 2 ^ (p + t - l).toNat) (l - p).toNat
          rw [Nat.mul_assoc, ← Nat.pow_add, show (p + t - l).toNat + (l - p).toNat = t by omega] at h3
          exact h3
        · have h3 := rnd_scale n (l - (p + t)).toNat t
          rw [show (l - (p + t)).toNat + t = (l - p).toNat by omega] at h3
          rw [h3, show (p + t - l).toNat = 0 by omega, Nat.pow_zero, Nat.mul_one]
    rw [e]

/-! what a word is read as -/
theorem read_def (a : Nat) : double.read a = (if a % 9223372036854775808 < 4503599627370496 then .number (a / 9223372036854775808 % 2 == 1) (a % 9223372036854775808) (-1074)
    else if a % 9223372036854775808 < 9218868437227405312 then .number (a / 9223372036854775808 % 2 == 1) (4503599627370496 + a % 9223372036854775808 % 4503599627370496) (-1074 + (a % 9223372036854775808 / 4503599627370496 - 1 : Nat))
    else if a % 9223372036854775808 = 9218868437227405312 then .infinity (a / 9223372036854775808 % 2 == 1)
    else .nan (a / 9223372036854775808 % 2 == 1) (a % 9223372036854775808 - 9218868437227405312)) := by
  unfold Format.read
  rw [d_binade, d_sign, d_inf, d_least]
theorem word_def (s : Bool) (r : Nat) : double.word s r = (if s then 9223372036854775808 + r else r) := by
  unfold Format.word; rw [d_sign]
theorem word_sign (s : Bool) (r : Nat) (h : r < 9223372036854775808) : (double.word s r / 9223372036854775808 % 2 == 1) = s := by
  rw [word_def]; cases s
  · simp only [Bool.false_eq_true, if_false]
    rw [beq_eq_false_iff_ne]; omega
  · simp only [if_true]
    rw [beq_iff_eq]; omega
theorem word_rung (s : Bool) (r : Nat) (h : r < 9223372036854775808) : double.word s r % 9223372036854775808 = r := by
  rw [word_def]; cases s <;> simp <;> omega
/-- Is a word no number? -/
def nanB (a : Nat) : Bool := decide (9218868437227405312 < a % 9223372036854775808)
theorem read_nan (a : Nat) (h : nanB a = true) : double.read a = .nan (a / 9223372036854775808 % 2 == 1) (a % 9223372036854775808 - 9218868437227405312) := by
  unfold nanB at h
  rw [decide_eq_true_eq] at h
  rw [read_def, if_neg (by omega), if_neg (by omega), if_neg (by omega)]
theorem read_inf (a : Nat) (h : a % 9223372036854775808 = 9218868437227405312) : double.read a = .infinity (a / 9223372036854775808 % 2 == 1) := by
  rw [read_def, if_neg (by omega), if_neg (by omega), if_pos h]
theorem read_num (a : Nat) (h : a % 9223372036854775808 < 9218868437227405312) : ∃ (m : Nat) (i : Int), double.read a = .number (a / 9223372036854775808 % 2 == 1) m i ∧ -1074 ≤ i ∧ (m = 0 ↔ a % 9223372036854775808 = 0) := by
  rw [read_def]
  by_cases h1 : a % 9223372036854775808 < 4503599627370496
  · rw [if_pos h1]; exact ⟨_, _, rfl, by omega, Iff.rfl⟩
  · rw [if_neg h1, if_pos h]; exact ⟨_, _, rfl, by omega, by omega⟩
theorem read_cases (a : Nat) (h : nanB a = false) : double.read a = .infinity (a / 9223372036854775808 % 2 == 1) ∨ ∃ (m : Nat) (i : Int), double.read a = .number (a / 9223372036854775808 % 2 == 1) m i := by
  unfold nanB at h
  rw [decide_eq_false_iff_not] at h
  by_cases h1 : a % 9223372036854775808 = 9218868437227405312
  · exact .inl (read_inf a h1)
  · obtain ⟨m, i, e, _, _⟩ := read_num a (by omega)
    exact .inr ⟨m, i, e⟩
theorem order_nan (a b : Nat) (h : nanB a = true ∨ nanB b = true) : double.order a b = none := by
  unfold Format.order
  rcases h with h | h
  · rw [read_nan a h]; rfl
  · rw [read_nan b h]
    cases double.read a <;> rfl
theorem order_some (a b : Nat) (ha : nanB a = false) (hb : nanB b = false) : ∃ o, double.order a b = some o := by
  unfold Format.order
  rcases read_cases a ha with e | ⟨m, i, e⟩ <;> rcases read_cases b hb with e' | ⟨m', i', e'⟩ <;> rw [e, e'] <;> exact ⟨_, rfl⟩
theorem order_self (a : Nat) : double.order a a = if nanB a then none else some .eq := by
  by_cases h : nanB a = true
  · rw [if_pos h, order_nan a a (.inl h)]
  · rw [if_neg h]
    unfold Format.order
    rcases read_cases a (by simpa using h) with e | ⟨m, i, e⟩
    · rw [e]; simp [Datum.order]
    · rw [e]; simp [Datum.order]

/-! what comes of a number that is written -/
theorem write_nan (d : Datum) (h : d.isNaN = false) : nanB (double.write d) = false := by
  have key : ∀ (s : Bool) (r : Nat), r ≤ 9218868437227405312 → nanB (double.word s r) = false := by
    intro s r hr
    unfold nanB
    rw [word_rung s r (by omega), decide_eq_false_iff_not]
    omega
  cases d with
  | number s m i =>
    unfold Format.write
    dsimp only
    by_cases hm : m = 0
    · subst hm; rw [nearest_zero]; exact key _ _ (by omega)
    · rw [nearest_def _ _ _ hm]; exact key _ _ (by omega)
  | infinity s => unfold Format.write; dsimp only; rw [d_inf]; exact key _ _ (by omega)
  | nan s f => cases h
theorem write_lt64 (d : Datum) : double.write d < 18446744073709551616 := double.write_lt d
theorem sum_nan {x y d : Datum} (h : x.sum y = some d) : d.isNaN = false := by
  cases x <;> cases y <;> simp [Datum.sum] at h <;> (try (obtain ⟨_, h⟩ := h)) <;> (try subst h) <;> rfl
theorem product_nan {x y d : Datum} (h : x.product y = some d) : d.isNaN = false := by
  cases x <;> cases y <;> simp [Datum.product] at h <;> (try (obtain ⟨_, h⟩ := h)) <;> (try subst h) <;> rfl
theorem quotient_nan {k : Nat} {x y d : Datum} (h : x.quotient k y = some d) : d.isNaN = false := by
  cases x with
  | nan => simp [Datum.quotient] at h
  | infinity s =>
    cases y <;> simp [Datum.quotient] at h
    subst h; rfl
  | number s m i =>
    cases y with
    | nan => simp [Datum.quotient] at h
    | infinity t => simp [Datum.quotient] at h; subst h; rfl
    | number t n j =>
      simp only [Datum.quotient] at h
      split at h
      · split at h
        · cases h
        · cases h; rfl
      · cases h; rfl
theorem root_nan {k : Nat} {x d : Datum} (h : x.root k = some d) : d.isNaN = false := by
  cases x with
  | nan => simp [Datum.root] at h
  | infinity s => simp [Datum.root] at h; obtain ⟨_, h⟩ := h; subst h; rfl
  | number s m i =>
    simp only [Datum.root] at h
    split at h
    · cases h; rfl
    · split at h
      · cases h
      · cases h; rfl
/-- What a valid operation gives is a number or an infinity. -/
theorem fbits_nan {op : BinOp} {a b r : Nat} (h : floatBits op .f64 a b = some r) : nanB r = false := by
  unfold floatBits at h
  have key : ∀ {o : Option Datum} {r : Nat}, (∀ d, o = some d → d.isNaN = false) → o.map double.write = some r → nanB r = false := by
    intro o r ho hr
    cases o with
    | none => cases hr
    | some d => cases hr; exact write_nan d (ho d rfl)
  split at h
  · exact key (fun d hd => sum_nan hd) h
  · exact key (fun d hd => sum_nan hd) h
  · exact key (fun d hd => product_nan hd) h
  · exact key (fun d hd => quotient_nan hd) h
  · cases h
theorem fsqrt_nan {a r : Nat} (h : double.sqrt a = some r) : nanB r = false := by
  unfold Format.sqrt at h
  cases ho : (double.read a).root (double.fractionBits + 2) with
  | none => rw [ho] at h; cases h
  | some d => rw [ho] at h; cases h; exact write_nan d (root_nan ho)
theorem fbits_none {op : BinOp} {a b : Nat} (h : nanB a = true ∨ nanB b = true) : floatBits op .f64 a b = none := by
  unfold floatBits
  rcases h with h | h
  all_goals
    split <;> try rfl
    all_goals
      show Option.map double.write _ = none
      rw [Option.map_eq_none_iff]
      first
      | (rw [show FloatKind.f64.format = double from rfl, read_nan a h]; rfl)
      | (rw [show FloatKind.f64.format = double from rfl, read_nan b h]; cases double.read a <;> rfl)

/-! whole numbers as doubles -/
def Whole (w : Nat) (s : Bool) (n : Nat) : Prop := w < 18446744073709551616 ∧ ∃ x : Nat, double.read w = .number s (n * 2 ^ x) (-(x : Int))
theorem word_lt64 (s : Bool) (r : Nat) (h : r < 9223372036854775808) : double.word s r < 18446744073709551616 := by
  rw [word_def]; split <;> omega
theorem read_word (s : Bool) (r : Nat) (h : r < 9218868437227405312) : double.read (double.word s r) = (if r < 4503599627370496 then .number s r (-1074) else .number s (4503599627370496 + r % 4503599627370496) (-1074 + (r / 4503599627370496 - 1 : Nat))) := by
  rw [read_def, word_sign s r (by omega), word_rung s r (by omega)]
  split
  · rfl
  · rfl
theorem nearest_whole (s : Bool) (n : Nat) (h : n < 9007199254740992) : Whole (double.nearest s n 0) s n := by
  by_cases h0 : n = 0
  · subst h0
    rw [nearest_zero]
    obtain ⟨x, hx⟩ : ∃ x : Nat, x = 1074 := ⟨_, rfl⟩
    refine ⟨word_lt64 s 0 (by decide), x, ?_⟩
    rw [read_word s 0 (by decide), if_pos (by decide), Nat.zero_mul, hx]
    rfl
  · have hl : n.log2 ≤ 52 := by
      have := (Nat.log2_lt h0).2 (show n < 2 ^ 53 from h)
      omega
    rw [nearest_def _ _ _ h0, Int.zero_add, Int.max_eq_left (by omega)]
    rw [show ((n.log2 : Int) - 52 - 0).toNat = 0 by omega, rnd_zero, show (0 - ((n.log2 : Int) - 52)).toNat = 52 - n.log2 by omega, show ((n.log2 : Int) - 52 + 1074).toNat = n.log2 + 1022 by omega]
    have h1 : 2 ^ n.log2 ≤ n := Nat.log2_self_le h0
    have h2 : n < 2 ^ (n.log2 + 1) := Nat.lt_log2_self
    have h3 : 2 ^ n.log2 * 2 ^ (52 - n.log2) = 4503599627370496 := by rw [← Nat.pow_add, show n.log2 + (52 - n.log2) = 52 by omega]
    have h4 : 2 ^ (n.log2 + 1) * 2 ^ (52 - n.log2) = 9007199254740992 := by rw [← Nat.pow_add, show n.log2 + 1 + (52 - n.log2) = 53 by omega]
    have h5 := Nat.mul_le_mul_right (2 ^ (52 - n.log2)) h1
    have h6 := Nat.mul_lt_mul_of_pos_right h2 (Nat.two_pow_pos (52 - n.log2))
    rw [h3] at h5
    rw [h4] at h6
    rw [Nat.min_eq_left (by omega)]
    refine ⟨word_lt64 s _ (by omega), 52 - n.log2, ?_⟩
    generalize n * 2 ^ (52 - n.log2) = k at *
    rw [read_word s _ (by omega), if_neg (by omega)]
    rw [show 4503599627370496 + ((n.log2 + 1022) * 4503599627370496 + k) % 4503599627370496 = k by omega, show ((n.log2 + 1022) * 4503599627370496 + k) / 4503599627370496 = n.log2 + 1023 by omega]
    rw [show -1074 + ((n.log2 + 1023 - 1 : Nat) : Int) = -((52 - n.log2 : Nat) : Int) by omega]
theorem whole_nan {w : Nat} {s : Bool} {n : Nat} (h : Whole w s n) : nanB w = false := by
  obtain ⟨_, x, hx⟩ := h
  cases hn : nanB w with
  | false => rfl
  | true => rw [read_nan w hn] at hx; cases hx
/-- The number with its sign. -/
def sgd (s : Bool) (n : Nat) : Int := if s then -(n : Int) else n
theorem signed_pow (s : Bool) (n x y : Nat) (h : x ≤ y) : signed s (n * 2 ^ x) (y - x) = sgd s n * (2 ^ y : Nat) := by
  unfold signed sgd
  rw [Nat.shiftLeft_eq, Nat.mul_assoc, ← Nat.pow_add, show x + (y - x) = y by omega]
  cases s
  · simp only [Bool.false_eq_true, if_false]; exact Int.natCast_mul n (2 ^ y)
  · simp only [if_true]; rw [Int.neg_mul, Int.natCast_mul]
theorem mul_pow_pos (t : Int) (y : Nat) : (t * (2 ^ y : Nat) = 0 ↔ t = 0) ∧ (t * (2 ^ y : Nat) < 0 ↔ t < 0) ∧ (t * (2 ^ y : Nat)).natAbs = t.natAbs * 2 ^ y := by
  have hp : (0 : Int) < (2 ^ y : Nat) := by exact_mod_cast Nat.two_pow_pos y
  refine ⟨?_, ?_, ?_⟩
  · rw [Int.mul_eq_zero]; omega
  · constructor
    · intro h
      refine Int.lt_of_not_ge fun g => ?_
      have := Int.mul_nonneg g (Int.le_of_lt hp)
      omega
    · intro h; exact Int.mul_neg_of_neg_of_pos h hp
  · rw [Int.natAbs_mul]; congr 1
theorem sum_whole {a b : Nat} {s t : Bool} {m n : Nat} (ha : Whole a s m) (hb : Whole b t n) :
    double.add a b = some (double.nearest (if sgd s m + sgd t n = 0 then s && t else decide (sgd s m + sgd t n < 0)) (sgd s m + sgd t n).natAbs 0) := by
  obtain ⟨_, x, hx⟩ := ha
  obtain ⟨_, y, hy⟩ := hb
  unfold Format.add
  rw [hx, hy]
  simp only [Datum.sum]
  have hm : min (-(x : Int)) (-(y : Int)) = -((max x y : Nat) : Int) := by omega
  rw [hm, show (-(x : Int) - -((max x y : Nat) : Int)).toNat = max x y - x by omega, show (-(y : Int) - -((max x y : Nat) : Int)).toNat = max x y - y by omega, signed_pow _ _ _ _ (Nat.le_max_left x y), signed_pow _ _ _ _ (Nat.le_max_right x y), ← Int.add_mul]
  obtain ⟨h1, h2, h3⟩ := mul_pow_pos (sgd s m + sgd t n) (max x y)
  simp only [Option.map_some, Format.write]
  rw [h3, nearest_scale, show -((max x y : Nat) : Int) + ((max x y : Nat) : Int) = 0 by omega]
  simp only [h1, h2]
theorem opp_whole {b : Nat} {t : Bool} {n : Nat} (hb : Whole b t n) : ∃ y : Nat, (double.read b).opposite = .number (!t) (n * 2 ^ y) (-(y : Int)) := by
  obtain ⟨_, y, hy⟩ := hb
  exact ⟨y, by rw [hy]; rfl⟩
theorem sub_whole {a b : Nat} {s t : Bool} {m n : Nat} (ha : Whole a s m) (hb : Whole b t n) :
    double.sub a b = some (double.nearest (if sgd s m - sgd t n = 0 then s && !t else decide (sgd s m - sgd t n < 0)) (sgd s m - sgd t n).natAbs 0) := by
  have hs : sgd (!t) n = -sgd t n := by cases t <;> simp [sgd]
  obtain ⟨_, x, hx⟩ := ha
  obtain ⟨y, hy⟩ := opp_whole hb
  unfold Format.sub
  rw [hx, hy]
  simp only [Datum.sum]
  have hm : min (-(x : Int)) (-(y : Int)) = -((max x y : Nat) : Int) := by omega
  rw [hm, show (-(x : Int) - -((max x y : Nat) : Int)).toNat = max x y - x by omega, show (-(y : Int) - -((max x y : Nat) : Int)).toNat = max x y - y by omega, signed_pow _ _ _ _ (Nat.le_max_left x y), signed_pow _ _ _ _ (Nat.le_max_right x y), ← Int.add_mul, hs, ← Int.sub_eq_add_neg]
  obtain ⟨h1, h2, h3⟩ := mul_pow_pos (sgd s m - sgd t n) (max x y)
  simp only [Option.map_some, Format.write]
  rw [h3, nearest_scale, show -((max x y : Nat) : Int) + ((max x y : Nat) : Int) = 0 by omega]
  simp only [h1, h2]
theorem mul_whole {a b : Nat} {s t : Bool} {m n : Nat} (ha : Whole a s m) (hb : Whole b t n) :
    double.mul a b = some (double.nearest (s ^^ t) (m * n) 0) := by
  obtain ⟨_, x, hx⟩ := ha
  obtain ⟨_, y, hy⟩ := hb
  unfold Format.mul
  rw [hx, hy]
  simp only [Datum.product, Option.map_some, Format.write]
  rw [show m * 2 ^ x * (n * 2 ^ y) = m * n * 2 ^ (x + y) by rw [Nat.pow_add]; simp only [Nat.mul_assoc, Nat.mul_left_comm], nearest_scale, show -(x : Int) + -(y : Int) + ((x + y : Nat) : Int) = 0 by omega]
theorem toInt_whole {w : Nat} {s : Bool} {n : Nat} (h : Whole w s n) : (double.read w).toInt .zero = some (sgd s n) := by
  obtain ⟨_, x, hx⟩ := h
  rw [hx]
  simp only [Datum.toInt, Datum.integral]
  rw [cut_zero, show (-(x : Int)).toNat = 0 by omega, show (-(-(x : Int))).toNat = x by omega, Nat.shiftLeft_zero, Nat.mul_div_cancel _ (Nat.two_pow_pos x)]
  simp [signed, sgd]
theorem compare_mul (a b : Int) (y : Nat) : compare (a * (2 ^ y : Nat)) (b * (2 ^ y : Nat)) = compare a b := by
  have hp : (0 : Int) < (2 ^ y : Nat) := by exact_mod_cast Nat.two_pow_pos y
  rcases Int.lt_trichotomy a b with h | h | h
  · rw [Int.compare_eq_lt.2 h, Int.compare_eq_lt.2 (Int.mul_lt_mul_of_pos_right h hp)]
  · subst h; rw [Int.compare_eq_eq.2 rfl, Int.compare_eq_eq.2 rfl]
  · rw [Int.compare_eq_gt.2 h, Int.compare_eq_gt.2 (Int.mul_lt_mul_of_pos_right h hp)]
theorem order_whole {a b : Nat} {s t : Bool} {m n : Nat} (ha : Whole a s m) (hb : Whole b t n) : double.order a b = some (compare (sgd s m) (sgd t n)) := by
  obtain ⟨_, x, hx⟩ := ha
  obtain ⟨_, y, hy⟩ := hb
  unfold Format.order
  rw [hx, hy]
  simp only [Datum.order]
  have hm : min (-(x : Int)) (-(y : Int)) = -((max x y : Nat) : Int) := by omega
  rw [hm, show (-(x : Int) - -((max x y : Nat) : Int)).toNat = max x y - x by omega, show (-(y : Int) - -((max x y : Nat) : Int)).toNat = max x y - y by omega, signed_pow _ _ _ _ (Nat.le_max_left x y), signed_pow _ _ _ _ (Nat.le_max_right x y), compare_mul]

/-! quotients of whole numbers -/
theorem tobool_le (b : Bool) : b.toNat ≤ 1 := by cases b <;> decide
theorem cut_number (w : Nat) (s : Bool) (k : Nat) (l : Nat) (h : double.read w = .number s k (-(l : Int))) : (double.read w).toInt .zero = some (sgd s (k / 2 ^ l)) := by
  rw [h]
  simp only [Datum.toInt, Datum.integral]
  rw [cut_zero, show (-(l : Int)).toNat = 0 by omega, show (-(-(l : Int))).toNat = l by omega, Nat.shiftLeft_zero]
  simp [signed, sgd]
/-- A number below 2^31, more than 2^-60, and not within an eighth below a whole one: what it is cut to isn't changed by rounding it. -/
theorem near_cut (s : Bool) (m l q : Nat) (h0 : m ≠ 0) (hlo : q * 2 ^ l ≤ m) (hhi : m * 8 ≤ (8 * q + 7) * 2 ^ l) (hq : q ≤ 2147483648) (hs : l ≤ m.log2 + 60) :
    (double.read (double.nearest s m (-(l : Int)))).toInt .zero = some (sgd s q) := by
  have g1 : 2 ^ m.log2 ≤ m := Nat.log2_self_le h0
  have g2 : m < 2 ^ (m.log2 + 1) := Nat.lt_log2_self
  -- m < 2^(31 + l)
  have g3 : m.log2 < 32 + l := by
    refine (Nat.log2_lt h0).2 ?_
    rw [Nat.pow_add]
    have : (8 * q + 7) * 2 ^ l ≤ (8 * 2147483648 + 7) * 2 ^ l := Nat.mul_le_mul_right _ (by omega)
    omega
  rw [nearest_def _ _ _ h0]
  obtain ⟨L, hL⟩ : ∃ L : Nat, max (-(l : Int) + m.log2 - 52) (-1074) = -(L : Int) ∧ L + m.log2 = l + 52 := ⟨l + 52 - m.log2, by omega, by omega⟩
  obtain ⟨hL, hLm⟩ := hL
  rw [hL]
  -- what is kept
  have hk : ∃ k, rnd (m * 2 ^ (-(l : Int) - -(L : Int)).toNat) (-(L : Int) - -(l : Int)).toNat = k ∧ q * 2 ^ L ≤ k ∧ k * 8 ≤ (8 * q + 7) * 2 ^ L ∧ 4503599627370496 ≤ k ∧ k ≤ 9007199254740992 := by
    refine ⟨_, rfl, ?_⟩
    by_cases hc : l ≤ L
    · rw [show (-(L : Int) - -(l : Int)).toNat = 0 by omega, rnd_zero, show (-(l : Int) - -(L : Int)).toNat = L - l by omega]
      have e1 : 2 ^ L = 2 ^ l * 2 ^ (L - l) := by rw [← Nat.pow_add]; congr 1; omega
      refine ⟨?_, ?_, ?_, ?_⟩
      · rw [e1, ← Nat.mul_assoc]; exact Nat.mul_le_mul_right _ hlo
      · rw [e1, ← Nat.mul_assoc, Nat.mul_right_comm]; exact Nat.mul_le_mul_right _ hhi
      · have := Nat.mul_le_mul_right (2 ^ (L - l)) g1
        rw [← Nat.pow_add, show m.log2 + (L - l) = 52 by omega] at this
        exact this
      · have := Nat.mul_lt_mul_of_pos_right g2 (Nat.two_pow_pos (L - l))
        rw [← Nat.pow_add, show m.log2 + 1 + (L - l) = 53 by omega] at this
        omega
    · rw [show (-(l : Int) - -(L : Int)).toNat = 0 by omega, Nat.pow_zero, Nat.mul_one, show (-(L : Int) - -(l : Int)).toNat = l - L by omega]
      have e1 : 2 ^ l = 2 ^ L * 2 ^ (l - L) := by rw [← Nat.pow_add]; congr 1; omega
      have hL3 : 3 ≤ L := by omega
      have e3 : 2 ^ L = 8 * 2 ^ (L - 3) := by rw [show (8 : Nat) = 2 ^ 3 from rfl, ← Nat.pow_add]; congr 1; omega
      refine ⟨?_, ?_, ?_, ?_⟩
      · exact rnd_ge _ _ _ (by rw [Nat.mul_assoc, ← e1]; exact hlo)
      · have : rnd m (l - L) ≤ (8 * q + 7) * 2 ^ (L - 3) := by
          refine rnd_le _ _ _ ?_
          rw [e1, e3] at hhi
          have h8 : m * 8 ≤ ((8 * q + 7) * 2 ^ (L - 3) * 2 ^ (l - L)) * 8 := by
            refine Nat.le_trans hhi (Nat.le_of_eq ?_)
            simp only [Nat.mul_comm, Nat.mul_left_comm]
          exact Nat.le_of_mul_le_mul_right h8 (by decide)
        rw [e3]
        have := Nat.mul_le_mul_right 8 this
        refine Nat.le_trans this (Nat.le_of_eq ?_)
        rw [Nat.mul_assoc, Nat.mul_comm (2 ^ (L - 3)) 8]
      · refine rnd_ge _ _ _ ?_
        have e4 : 4503599627370496 * 2 ^ (l - L) = 2 ^ m.log2 := by rw [show (4503599627370496 : Nat) = 2 ^ 52 from rfl, ← Nat.pow_add]; congr 1; omega
        rw [e4]; exact g1
      · refine rnd_le _ _ _ ?_
        have e4 : 9007199254740992 * 2 ^ (l - L) = 2 ^ (m.log2 + 1) := by rw [show (9007199254740992 : Nat) = 2 ^ 53 from rfl, ← Nat.pow_add]; congr 1; omega
        rw [e4]; omega
  obtain ⟨k, hk, k1, k2, k3, k4⟩ := hk
  rw [hk, show (-(L : Int) + 1074).toNat = 1074 - L by omega, Nat.min_eq_left (by omega)]
  have fin : ∀ (k' L' : Nat), q * 2 ^ L' ≤ k' → k' * 8 ≤ (8 * q + 7) * 2 ^ L' → k' / 2 ^ L' = q := by
    intro k' L' a b
    have hp := Nat.two_pow_pos L'
    refine Nat.div_eq_of_lt_le a ?_
    rw [Nat.add_mul]
    generalize 2 ^ L' = P at *
    have : (8 * q + 7) * P = 8 * (q * P) + 7 * P := by rw [Nat.add_mul, Nat.mul_assoc]
    omega
  by_cases hc : k = 9007199254740992
  · subst hc
    have hr : double.read (double.word s ((1074 - L) * 4503599627370496 + 9007199254740992)) = .number s 4503599627370496 (-((L - 1 : Nat) : Int)) := by
      rw [read_word s _ (by omega), if_neg (by omega)]
      rw [show ((1074 - L) * 4503599627370496 + 9007199254740992) % 4503599627370496 = 0 by omega, show ((1074 - L) * 4503599627370496 + 9007199254740992) / 4503599627370496 = 1074 - L + 2 by omega, show -1074 + ((1074 - L + 2 - 1 : Nat) : Int) = -((L - 1 : Nat) : Int) by omega]
    rw [cut_number _ _ _ _ hr]
    have e2 : 2 ^ L = 2 * 2 ^ (L - 1) := by rw [show L = L - 1 + 1 by omega, Nat.pow_succ, Nat.mul_comm]; simp
    rw [fin 4503599627370496 (L - 1)]
    · rw [e2] at k1
      rw [show q * (2 * 2 ^ (L - 1)) = 2 * (q * 2 ^ (L - 1)) by simp only [Nat.mul_left_comm]] at k1
      omega
    · rw [e2] at k2
      rw [show (8 * q + 7) * (2 * 2 ^ (L - 1)) = 2 * ((8 * q + 7) * 2 ^ (L - 1)) by simp only [Nat.mul_left_comm]] at k2
      omega
  · have hr : double.read (double.word s ((1074 - L) * 4503599627370496 + k)) = .number s k (-(L : Int)) := by
      rw [read_word s _ (by omega), if_neg (by omega)]
      rw [show 4503599627370496 + ((1074 - L) * 4503599627370496 + k) % 4503599627370496 = k by omega, show ((1074 - L) * 4503599627370496 + k) / 4503599627370496 = 1074 - L + 1 by omega, show -1074 + ((1074 - L + 1 - 1 : Nat) : Int) = -(L : Int) by omega]
    rw [cut_number _ _ _ _ hr, fin k L k1 k2]

theorem div_whole {a b : Nat} {s : Bool} {v k : Nat} (ha : Whole a s v) (hb : Whole b false k) (hv : v ≤ 2147483648) (hk : 0 < k) (hk7 : k ≤ 7) :
    ∃ r, double.div a b = some r ∧ (double.read r).toInt .zero = some (sgd s (v / k)) := by
  by_cases hk1 : v = 0
  · obtain ⟨_, x, hx⟩ := ha
    obtain ⟨_, y, hy⟩ := hb
    subst hk1
    refine ⟨double.nearest s 0 0, ?_, ?_⟩
    · unfold Format.div
      rw [hx, hy]
      simp only [Datum.quotient]
      rw [if_neg (Nat.mul_ne_zero (by omega) (by have := Nat.two_pow_pos y; omega))]
      simp only [Nat.zero_mul, Nat.zero_shiftLeft, Nat.zero_div, Nat.zero_mod, Option.map_some, Format.write, Bool.xor_false, Nat.mul_zero]
      exact congrArg some (nearest_zero s _)
    · rw [Nat.zero_div]
      exact toInt_whole (nearest_whole s 0 (by decide))
  · obtain ⟨_, x, hx⟩ := ha
    obtain ⟨_, y, hy⟩ := hb
    have hn0 : k * 2 ^ y ≠ 0 := Nat.mul_ne_zero (by omega) (by have := Nat.two_pow_pos y; omega)
    have lm : (v * 2 ^ x).log2 = v.log2 + x := log2_mul_pow v x hk1
    have ln : (k * 2 ^ y).log2 = k.log2 + y := log2_mul_pow k y (by omega)
    have lv : v.log2 < 32 := (Nat.log2_lt hk1).2 (by omega)
    have lk : k.log2 < 3 := (Nat.log2_lt (by omega)).2 (by omega)
    obtain ⟨more, hmore⟩ : ∃ more, more = double.fractionBits + 2 + (k * 2 ^ y).log2 - (v * 2 ^ x).log2 := ⟨_, rfl⟩
    have hm2 : more = 54 + (k.log2 + y) - (v.log2 + x) := by rw [hmore, lm, ln, d_frac]
    obtain ⟨l, hl⟩ : ∃ l : Nat, l + y = x + more + 1 ∧ 6 ≤ l := ⟨x + more + 1 - y, by omega, by omega⟩
    obtain ⟨hl, hl6⟩ := hl
    have hD : v * 2 ^ x * 2 ^ more = v * 2 ^ (l - 1) * 2 ^ y := by
      rw [Nat.mul_assoc, ← Nat.pow_add, Nat.mul_assoc, ← Nat.pow_add, show x + more = l - 1 + y by omega]
    have hyp : 0 < 2 ^ y := Nat.two_pow_pos y
    refine ⟨double.nearest s (2 * (v * 2 ^ (l - 1) / k) + (v * 2 ^ (l - 1) % k != 0).toNat) (-(l : Int)), ?_, ?_⟩
    · unfold Format.div
      rw [hx, hy]
      simp only [Datum.quotient]
      rw [if_neg hn0, ← hmore, Nat.shiftLeft_eq, hD, Nat.mul_div_mul_right _ _ hyp, Nat.mul_mod_mul_right]
      simp only [Option.map_some, Format.write, Bool.xor_false]
      rw [show -(x : Int) - -(y : Int) - (more : Int) - 1 = -(l : Int) by omega]
      have : (v * 2 ^ (l - 1) % k * 2 ^ y != 0) = (v * 2 ^ (l - 1) % k != 0) := by
        rw [Bool.eq_iff_iff]
        simp only [bne_iff_ne, ne_eq, Nat.mul_eq_zero]
        omega
      rw [this]
    · have e2 : 2 ^ l = 2 * 2 ^ (l - 1) := by rw [show l = l - 1 + 1 by omega, Nat.pow_succ, Nat.mul_comm]; simp
      have e8 : 2 ^ (l - 1) = 8 * 2 ^ (l - 4) := by rw [show (8 : Nat) = 2 ^ 3 from rfl, ← Nat.pow_add]; congr 1; omega
      have e32 : 32 ≤ 2 ^ (l - 1) := Nat.le_trans (show 32 ≤ 2 ^ 5 by decide) (Nat.pow_le_pow_right (by decide) (by omega))
      have d1 := Nat.div_add_mod v k
      have d2 := Nat.mod_lt v hk
      have d3 := Nat.div_add_mod (v * 2 ^ (l - 1)) k
      have d4 := Nat.mod_lt (v * 2 ^ (l - 1)) hk
      have hU : v * 2 ^ (l - 1) = k * (v / k * 2 ^ (l - 1)) + v % k * 2 ^ (l - 1) := by
        rw [← Nat.mul_assoc, ← Nat.add_mul, d1]
      have hge : 2 ^ (l - 1) ≤ v * 2 ^ (l - 1) := Nat.le_mul_of_pos_left _ (by omega)
      have hr : v % k * 2 ^ (l - 1) ≤ (k - 1) * 2 ^ (l - 1) := Nat.mul_le_mul_right _ (by omega)
      have hbt := Bool.toNat_le (v * 2 ^ (l - 1) % k != 0)
      have hq31 : v / k ≤ 2147483648 := Nat.le_trans (Nat.div_le_self v k) hv
      have hA : v / k * 2 ^ (l - 1) ≤ v * 2 ^ (l - 1) / k := (Nat.le_div_iff_mul_le hk).2 (by rw [Nat.mul_comm _ k]; omega)
      have hB : 2 ^ (l - 4) ≤ v * 2 ^ (l - 1) / k := (Nat.le_div_iff_mul_le hk).2 (by
        have : 2 ^ (l - 4) * k ≤ 2 ^ (l - 4) * 8 := Nat.mul_le_mul_left _ (by omega)
        omega)
      have h4 : 0 < 2 ^ (l - 4) := Nat.two_pow_pos _
      generalize hbit : (v * 2 ^ (l - 1) % k != 0).toNat = bit at *
      refine near_cut s _ l (v / k) (by omega) ?_ ?_ hq31 ?_
      · rw [e2, Nat.mul_left_comm]; omega
      · have e16 : (8 * (v / k) + 7) * (2 * 2 ^ (l - 1)) = 16 * (v / k * 2 ^ (l - 1)) + 14 * 2 ^ (l - 1) := by
          rw [Nat.add_mul, Nat.mul_assoc 8, Nat.mul_left_comm (v / k) 2]; omega
        rw [e2, e16]
        clear e16
        generalize v % k * 2 ^ (l - 1) = B at *
        generalize v / k * 2 ^ (l - 1) = A at *
        generalize v * 2 ^ (l - 1) / k = T at *
        generalize v * 2 ^ (l - 1) % k = R at *
        generalize v * 2 ^ (l - 1) = U at *
        generalize 2 ^ (l - 1) = P at *
        clear hbit d1 d2 hA hB
        have hk' : k = 1 ∨ k = 2 ∨ k = 3 ∨ k = 4 ∨ k = 5 ∨ k = 6 ∨ k = 7 := by omega
        rcases hk' with rfl | rfl | rfl | rfl | rfl | rfl | rfl <;> omega
      · have : l - 3 ≤ (2 * (v * 2 ^ (l - 1) / k) + bit).log2 := by
          rw [Nat.le_log2 (by omega)]
          rw [show l - 3 = l - 4 + 1 by omega, Nat.pow_succ]
          omega
        omega
/-! roots of squares -/
theorem rootFrom_sq (r : Nat) : ∀ (todo root : Nat), root ≤ r → r < root + 2 ^ todo → Datum.rootFrom (r * r) todo root = r := by
  intro todo
  induction todo with
  | zero => intro root h1 h2; simp only [Datum.rootFrom]; omega
  | succ k ih =>
    intro root h1 h2
    simp only [Datum.rootFrom]
    rw [Nat.shiftLeft_eq, Nat.one_mul]
    rw [Nat.pow_succ] at h2
    by_cases h : root + 2 ^ k ≤ r
    · rw [if_pos (Nat.mul_le_mul h h)]
      exact ih _ h (by omega)
    · rw [if_neg (fun g => h (by
        refine Nat.le_of_not_lt fun hlt => ?_
        have := Nat.mul_lt_mul_of_lt_of_le hlt (Nat.le_of_lt hlt) (by omega)
        omega))]
      exact ih _ h1 (by omega)
theorem root_lt (r : Nat) : r < 0 + 2 ^ ((r * r).log2 / 2 + 1) := by
  rw [Nat.zero_add]
  refine Nat.lt_of_not_le fun h => ?_
  have h1 : r * r < 2 ^ ((r * r).log2 + 1) := Nat.lt_log2_self
  have h2 := Nat.mul_le_mul h h
  rw [← Nat.pow_add] at h2
  have h3 : 2 ^ ((r * r).log2 + 1) ≤ 2 ^ ((r * r).log2 / 2 + 1 + ((r * r).log2 / 2 + 1)) := Nat.pow_le_pow_right (by decide) (by omega)
  omega
theorem sqrt_whole {a : Nat} {k : Nat} (ha : Whole a false (k * k)) : double.sqrt a = some (double.nearest false k 0) := by
  obtain ⟨_, x, hx⟩ := ha
  unfold Format.sqrt
  rw [hx]
  by_cases hk : k = 0
  · subst hk
    simp only [Datum.root, Nat.zero_mul, if_true, Option.map_some, Format.write]
    rw [nearest_zero, nearest_zero]
  · have hm : k * k * 2 ^ x ≠ 0 := Nat.mul_ne_zero (Nat.mul_ne_zero hk hk) (by have := Nat.two_pow_pos x; omega)
    simp only [Datum.root]
    rw [if_neg hm, if_neg (by decide)]
    generalize 2 * (double.fractionBits + 2) - (k * k * 2 ^ x).log2 = more0
    obtain ⟨more, hmore⟩ : ∃ more, more = more0 + ((-(x : Int) - (more0 : Int)) % 2).toNat := ⟨_, rfl⟩
    rw [← hmore]
    obtain ⟨h, hh⟩ : ∃ h, x + more = h + h := ⟨(x + more) / 2, by omega⟩
    have hn : (k * k * 2 ^ x) <<< more = k * 2 ^ h * (k * 2 ^ h) := by
      rw [Nat.shiftLeft_eq, Nat.mul_assoc, ← Nat.pow_add, hh, Nat.pow_add]
      simp only [Nat.mul_assoc, Nat.mul_left_comm]
    rw [hn, rootFrom_sq _ _ _ (Nat.zero_le _) (root_lt _)]
    simp only [Option.map_some, Format.write, bne_self_eq_false, Bool.toNat_false, Nat.add_zero]
    rw [show 2 * (k * 2 ^ h) = k * 2 ^ (h + 1) by rw [Nat.pow_succ, Nat.mul_comm (2 ^ h) 2, Nat.mul_left_comm], nearest_scale,
      show (-(x : Int) - (more : Int)) / 2 - 1 + ((h + 1 : Nat) : Int) = 0 by omega]

theorem sqrt_sign (b : Nat) (nb : nanB b = false) : (double.order b 0 = some .lt ∧ double.sqrt b = none) ∨ (∃ o r, double.order b 0 = some o ∧ o ≠ .lt ∧ double.sqrt b = some r) := by
  have h0 : double.read 0 = .number false 0 (-1074) := by rw [read_def]; rfl
  unfold Format.order Format.sqrt
  rw [h0]
  rcases read_cases b nb with e | ⟨m, i, e⟩
  · rw [e]
    cases b / 9223372036854775808 % 2 == 1
    · exact .inr ⟨_, _, rfl, by decide, rfl⟩
    · exact .inl ⟨rfl, rfl⟩
  · rw [e]
    generalize (b / 9223372036854775808 % 2 == 1) = s
    have hp : ∀ u : Nat, signed false 0 u = 0 := by intro u; simp [signed]
    simp only [Datum.order, Datum.root, hp]
    by_cases hm : m = 0
    · subst hm
      right
      refine ⟨.eq, double.write (.number s 0 i), ?_, by decide, by simp⟩
      cases s <;> simp [signed]
    · rw [if_neg hm]
      have hs : ∀ u : Nat, 0 < m <<< u := by intro u; rw [Nat.shiftLeft_eq]; exact Nat.mul_pos (by omega) (Nat.two_pow_pos u)
      cases s
      · right
        have := hs (i - min i (-1074)).toNat
        refine ⟨.gt, _, ?_, by decide, rfl⟩
        simp only [signed, Bool.false_eq_true, if_false]
        rw [Int.compare_eq_gt.2 (by omega)]
      · left
        have := hs (i - min i (-1074)).toNat
        refine ⟨?_, rfl⟩
        simp only [signed, if_true]
        rw [Int.compare_eq_lt.2 (by omega)]

/-! a double, cut, against whole numbers -/
theorem order_cut {a w : Nat} {s t : Bool} {m k x : Nat} {i : Int} (ha : double.read a = .number s m i) (hw : double.read w = .number t (k * 2 ^ x) (-(x : Int))) :
    ∃ (U P : Nat), 0 < P ∧ (m <<< i.toNat) / 2 ^ (-i).toNat * P ≤ U ∧ U < ((m <<< i.toNat) / 2 ^ (-i).toNat + 1) * P ∧ double.order a w = some (compare (sgd s U) (sgd t k * (P : Int))) := by
  unfold Format.order
  rw [ha, hw]
  simp only [Datum.order]
  obtain ⟨E, hE⟩ : ∃ E : Nat, min i (-(x : Int)) = -(E : Int) := ⟨(-(min i (-(x : Int)))).toNat, by omega⟩
  have hxE : x ≤ E := by omega
  rw [hE, show (-(x : Int) - -(E : Int)).toNat = E - x by omega, signed_pow t k x E hxE]
  have hs : ∀ u : Nat, signed s m u = sgd s (m * 2 ^ u) := by
    intro u; unfold signed sgd; rw [Nat.shiftLeft_eq]
  rw [hs]
  refine ⟨m * 2 ^ (i - -(E : Int)).toNat, 2 ^ E, Nat.two_pow_pos E, ?_, ?_, rfl⟩
  all_goals
    rw [Nat.shiftLeft_eq]
    by_cases hi : 0 ≤ i
  · rw [show (-i).toNat = 0 by omega, Nat.pow_zero, Nat.div_one, Nat.mul_assoc, ← Nat.pow_add, show i.toNat + E = (i - -(E : Int)).toNat by omega]
    exact Nat.le_refl _
  · rw [show i.toNat = 0 by omega, Nat.pow_zero, Nat.mul_one]
    obtain ⟨f, hf, hfE⟩ : ∃ f : Nat, (-i).toNat = f ∧ f ≤ E := ⟨_, rfl, by omega⟩
    rw [hf, show (i - -(E : Int)).toNat = E - f by omega, show 2 ^ E = 2 ^ f * 2 ^ (E - f) by rw [← Nat.pow_add]; congr 1; omega, ← Nat.mul_assoc]
    exact Nat.mul_le_mul_right _ (Nat.div_mul_le_self m (2 ^ f))
  · rw [show (-i).toNat = 0 by omega, Nat.pow_zero, Nat.div_one, Nat.add_mul, Nat.mul_assoc, ← Nat.pow_add, show i.toNat + E = (i - -(E : Int)).toNat by omega]
    have := Nat.two_pow_pos E
    omega
  · rw [show i.toNat = 0 by omega, Nat.pow_zero, Nat.mul_one]
    obtain ⟨f, hf, hfE⟩ : ∃ f : Nat, (-i).toNat = f ∧ f ≤ E := ⟨_, rfl, by omega⟩
    rw [hf, show (i - -(E : Int)).toNat = E - f by omega, show 2 ^ E = 2 ^ f * 2 ^ (E - f) by rw [← Nat.pow_add]; congr 1; omega, ← Nat.mul_assoc]
    refine Nat.mul_lt_mul_of_pos_right ?_ (Nat.two_pow_pos _)
    rw [Nat.add_mul, Nat.one_mul]
    exact Nat.lt_div_mul_add (Nat.two_pow_pos f)
theorem toInt_num {a : Nat} {s : Bool} {m : Nat} {i : Int} (ha : double.read a = .number s m i) : (double.read a).toInt .zero = some (sgd s ((m <<< i.toNat) / 2 ^ (-i).toNat)) := by
  rw [ha]
  simp only [Datum.toInt, Datum.integral]
  rw [cut_zero]
  simp [signed, sgd]
theorem order_above {a w : Nat} {s : Bool} {m k x : Nat} {i : Int} (ha : double.read a = .number s m i) (hw : double.read w = .number false (k * 2 ^ x) (-(x : Int))) (hk : 0 < k) :
    ∃ o, double.order a w = some o ∧ (o = .lt ↔ sgd s ((m <<< i.toNat) / 2 ^ (-i).toNat) < k) := by
  obtain ⟨U, P, hP, h1, h2, h3⟩ := order_cut ha hw
  refine ⟨_, h3, ?_⟩
  rw [Int.compare_eq_lt]
  generalize (m <<< i.toNat) / 2 ^ (-i).toNat = T at *
  unfold sgd
  have hkP : 0 < k * P := Nat.mul_pos hk hP
  cases s
  · simp only [Bool.false_eq_true, if_false]
    constructor
    · intro h
      have h' : U < k * P := by exact_mod_cast h
      have : T * P < k * P := by omega
      have := Nat.lt_of_mul_lt_mul_right this
      omega
    · intro h
      have : (T + 1) * P ≤ k * P := Nat.mul_le_mul_right _ (by omega)
      have h' : U < k * P := by omega
      exact_mod_cast h'
  · simp only [if_true]
    have e : ((k : Nat) : Int) * (P : Int) = ((k * P : Nat) : Int) := by simp
    constructor
    · intro _; omega
    · intro _; rw [if_neg (by decide), e]; omega
theorem order_below {a w : Nat} {s : Bool} {m k x : Nat} {i : Int} (ha : double.read a = .number s m i) (hw : double.read w = .number true (k * 2 ^ x) (-(x : Int))) (hk : 0 < k) :
    ∃ o, double.order a w = some o ∧ (o = .gt ↔ -(k : Int) < sgd s ((m <<< i.toNat) / 2 ^ (-i).toNat)) := by
  obtain ⟨U, P, hP, h1, h2, h3⟩ := order_cut ha hw
  refine ⟨_, h3, ?_⟩
  rw [Int.compare_eq_gt]
  generalize (m <<< i.toNat) / 2 ^ (-i).toNat = T at *
  unfold sgd
  have hkP : 0 < k * P := Nat.mul_pos hk hP
  have e : -((k : Nat) : Int) * (P : Int) = -((k * P : Nat) : Int) := by rw [Int.neg_mul]; simp
  simp only [if_true]
  rw [e]
  cases s
  · simp only [Bool.false_eq_true, if_false]
    constructor
    · intro _; omega
    · intro _; omega
  · simp only [if_true]
    constructor
    · intro h
      have : T * P < k * P := by omega
      have := Nat.lt_of_mul_lt_mul_right this
      omega
    · intro h
      have : (T + 1) * P ≤ k * P := Nat.mul_le_mul_right _ (by omega)
      omega
theorem read_2_31 : double.read 4746794007248502784 = .number false (2147483648 * 2 ^ 21) (-((21 : Nat) : Int)) := by rw [read_def]; rfl
theorem read_n2_31 : double.read 13970166044105375744 = .number true (2147483649 * 2 ^ 21) (-((21 : Nat) : Int)) := by rw [read_def]; rfl

/-! the document's doubles -/
def quietN (a : Nat) : Nat := if nanB a then a ||| 2251799813685248 else a
def plainN : Nat := 18444492273895866368
def arithN (op : BinOp) (a b : Nat) : Nat := if nanB a then quietN a else if nanB b then quietN b else (floatBits op .f64 a b).getD plainN
def rootN (b : Nat) : Nat := if nanB b then quietN b else (double.sqrt b).getD plainN
def minN (a b : Nat) : Nat := if double.order a b = some .lt then a else b
def maxN (a b : Nat) : Nat := if double.order a b = some .gt then a else b
def fltN (op : Int) (a b : Nat) : Nat :=
  if op = 51 then b else if op = 52 then arithN .add a b else if op = 53 then arithN .mul a b else if op = 54 then arithN .sub a b else if op = 55 then minN a b
  else if op = 56 then arithN .quo a b else if op = 57 then maxN a b else if op = 58 then rootN b else a
def cmpC (a b : Nat) : Bool := double.order a b == none || double.order a b == some .lt
def cmpZ (a b : Nat) : Bool := double.order a b == none || double.order a b == some .eq
def cmpP (a b : Nat) : Bool := double.order a b == none
def fromN (v : Int) : Nat := double.nearest (decide (wrap32 v < 0)) (wrap32 v).natAbs 0
def toN (a : Nat) : Int := match (double.read a).toInt .zero with
  | some n => if -2147483648 ≤ n ∧ n ≤ 2147483647 then n % 4294967296 else 2147483648
  | none => 2147483648
/-- Where a double is cut to, if signed 32 bits have it; the tests that tell whether they have. -/
theorem toN_cases (a : Nat) (na : nanB a = false) :
    (∃ (o1 o2 : Ordering) (n : Int), double.order a 4746794007248502784 = some o1 ∧ double.order a 13970166044105375744 = some o2 ∧ (double.read a).toInt .zero = some n ∧ o1 = .lt ∧ o2 = .gt ∧ -2147483648 ≤ n ∧ n ≤ 2147483647 ∧ toN a = n % 4294967296) ∨
    (∃ (o1 o2 : Ordering), double.order a 4746794007248502784 = some o1 ∧ double.order a 13970166044105375744 = some o2 ∧ (o1 ≠ .lt ∨ (o1 = .lt ∧ o2 ≠ .gt)) ∧ toN a = 2147483648) := by
  rcases read_cases a na with e | ⟨m, i, e⟩
  · right
    have h1 : double.order a 4746794007248502784 = some (if (a / 9223372036854775808 % 2 == 1) then .lt else .gt) := by
      unfold Format.order; rw [e, read_2_31]; rfl
    have h2 : double.order a 13970166044105375744 = some (if (a / 9223372036854775808 % 2 == 1) then .lt else .gt) := by
      unfold Format.order; rw [e, read_n2_31]; rfl
    refine ⟨_, _, h1, h2, ?_, by unfold toN; rw [e]; rfl⟩
    cases (a / 9223372036854775808 % 2 == 1) <;> decide
  · obtain ⟨o1, h1, g1⟩ := order_above e read_2_31 (by decide)
    obtain ⟨o2, h2, g2⟩ := order_below e read_n2_31 (by decide)
    have hn := toInt_num e
    generalize sgd (a / 9223372036854775808 % 2 == 1) ((m <<< i.toNat) / 2 ^ (-i).toNat) = n at *
    by_cases c1 : o1 = .lt
    · by_cases c2 : o2 = .gt
      · left
        have l1 := g1.1 c1
        have l2 := g2.1 c2
        refine ⟨o1, o2, n, h1, h2, hn, c1, c2, by omega, by omega, ?_⟩
        unfold toN
        rw [hn]
        simp only
        rw [if_pos (by omega)]
      · right
        have l2 : ¬ -((2147483649 : Nat) : Int) < n := fun h => c2 (g2.2 h)
        refine ⟨o1, o2, h1, h2, .inr ⟨c1, c2⟩, ?_⟩
        unfold toN
        rw [hn]
        simp only
        rw [if_neg (by omega)]
    · right
      have l1 : ¬ n < ((2147483648 : Nat) : Int) := fun h => c1 (g1.2 h)
      refine ⟨o1, o2, h1, h2, .inl c1, ?_⟩
      unfold toN
      rw [hn]
      simp only
      rw [if_neg (by omega)]
theorem toN_nan (a : Nat) (na : nanB a = true) : toN a = 2147483648 := by
  unfold toN; rw [read_nan a na]; rfl
/-! noughts, infinities, and a number that is neither -/
theorem num_z (a z : Nat) (s : Bool) (na : nanB a = false) (h0 : a % 9223372036854775808 ≠ 0) (hi : a % 9223372036854775808 ≠ 9218868437227405312) (hz : double.read z = .number s 0 (-1074)) (nz : nanB z = false) :
    arithN .quo a z = double.word ((a / 9223372036854775808 % 2 == 1) ^^ s) 9218868437227405312 ∧ arithN .mul a z = double.word ((a / 9223372036854775808 % 2 == 1) ^^ s) 0 := by
  have hlt : a % 9223372036854775808 < 9218868437227405312 := by
    unfold nanB at na
    rw [decide_eq_false_iff_not] at na
    omega
  obtain ⟨m, i, e, _, hm⟩ := read_num a hlt
  have hm0 : m ≠ 0 := fun h => h0 (hm.1 h)
  unfold arithN floatBits
  rw [na, nz]
  simp only [Bool.false_eq_true, if_false]
  rw [show FloatKind.f64.format = double from rfl]
  constructor
  · unfold Format.div
    rw [e, hz]
    simp only [Datum.quotient, if_true]
    rw [if_neg hm0]
    simp only [Option.map_some, Format.write, Option.getD_some, d_inf]
  · unfold Format.mul
    rw [e, hz]
    simp only [Datum.product, Nat.mul_zero, Option.map_some, Format.write, Option.getD_some]
    rw [nearest_zero]
theorem num_i (a b : Nat) (t : Bool) (na : nanB a = false) (hi : a % 9223372036854775808 ≠ 9218868437227405312) (hb : double.read b = .infinity t) (nb : nanB b = false) :
    arithN .add a b = double.word t 9218868437227405312 := by
  have hlt : a % 9223372036854775808 < 9218868437227405312 := by
    unfold nanB at na
    rw [decide_eq_false_iff_not] at na
    omega
  obtain ⟨m, i, e, _, hm⟩ := read_num a hlt
  unfold arithN floatBits
  rw [na, nb]
  simp only [Bool.false_eq_true, if_false]
  rw [show FloatKind.f64.format = double from rfl]
  unfold Format.add
  rw [e, hb]
  simp only [Datum.sum, Option.map_some, Format.write, Option.getD_some, d_inf]
theorem num_self (a : Nat) (na : nanB a = false) (hi : a % 9223372036854775808 ≠ 9218868437227405312) : arithN .sub a a = 0 := by
  have hlt : a % 9223372036854775808 < 9218868437227405312 := by
    unfold nanB at na
    rw [decide_eq_false_iff_not] at na
    omega
  obtain ⟨m, i, e, _, hm⟩ := read_num a hlt
  unfold arithN floatBits
  rw [na]
  simp only [Bool.false_eq_true, if_false]
  rw [show FloatKind.f64.format = double from rfl]
  unfold Format.sub
  rw [e]
  generalize (a / 9223372036854775808 % 2 == 1) = s
  have hz : ∀ u : Nat, signed s m u + signed (!s) m u = 0 := by
    intro u; cases s <;> simp [signed] <;> omega
  simp only [Datum.opposite, Datum.sum, hz, if_true, Int.natAbs_zero, Option.map_some, Format.write, Option.getD_some]
  rw [nearest_zero, word_def]
  cases s <;> rfl
/-! whole numbers, there and back -/
theorem sgd_abs (z : Int) : sgd (decide (z < 0)) z.natAbs = z := by
  unfold sgd
  by_cases h : z < 0
  · rw [decide_eq_true h]; simp only [if_true]; omega
  · rw [decide_eq_false h]; simp only [Bool.false_eq_true, if_false]; omega
theorem sgd_abs' (s t : Bool) (z : Int) : sgd (if z = 0 then s && t else decide (z < 0)) z.natAbs = z := by
  by_cases h : z = 0
  · subst h; rw [if_pos rfl]; cases s <;> cases t <;> rfl
  · rw [if_neg h]; exact sgd_abs z
theorem whole_to {w : Nat} {s : Bool} {n : Nat} (h : Whole w s n) (h0 : -2147483648 ≤ sgd s n) (h1 : sgd s n ≤ 2147483647) : toN w = sgd s n % 4294967296 := by
  unfold toN
  rw [toInt_whole h]
  simp only
  rw [if_pos ⟨h0, h1⟩]
theorem from_whole (z : Int) (h0 : -2147483648 ≤ z) (h1 : z ≤ 2147483647) : Whole (fromN (z % 4294967296)) (decide (z < 0)) z.natAbs := by
  unfold fromN
  rw [show wrap32 (z % 4294967296) = z by unfold wrap32; omega]
  exact nearest_whole _ _ (by omega)
theorem fltN_52 (a b : Nat) : fltN 52 a b = arithN .add a b := rfl
theorem fltN_53 (a b : Nat) : fltN 53 a b = arithN .mul a b := rfl
theorem fltN_54 (a b : Nat) : fltN 54 a b = arithN .sub a b := rfl
theorem fltN_55 (a b : Nat) : fltN 55 a b = minN a b := rfl
theorem fltN_56 (a b : Nat) : fltN 56 a b = arithN .quo a b := rfl
theorem fltN_57 (a b : Nat) : fltN 57 a b = maxN a b := rfl
theorem fltN_58 (a b : Nat) : fltN 58 a b = rootN b := rfl
theorem arithN_num (op : BinOp) (a b r : Nat) (na : nanB a = false) (nb : nanB b = false) (h : floatBits op .f64 a b = some r) : arithN op a b = r := by
  unfold arithN; rw [na, nb, h]; rfl
theorem fb_add (a b : Nat) : floatBits .add .f64 a b = double.add a b := rfl
theorem fb_sub (a b : Nat) : floatBits .sub .f64 a b = double.sub a b := rfl
theorem fb_mul (a b : Nat) : floatBits .mul .f64 a b = double.mul a b := rfl
theorem fb_quo (a b : Nat) : floatBits .quo .f64 a b = double.div a b := rfl
theorem rootN_num (b r : Nat) (nb : nanB b = false) (h : double.sqrt b = some r) : rootN b = r := by
  unfold rootN; rw [nb, h]; rfl
theorem rootN_none (b : Nat) (nb : nanB b = false) (h : double.sqrt b = none) : rootN b = 18444492273895866368 := by
  unfold rootN; rw [nb, h]; rfl
theorem add_from (a b : Int) (a0 : -2147483648 ≤ a) (a1 : a ≤ 2147483647) (b0 : -2147483648 ≤ b) (b1 : b ≤ 2147483647) (s0 : -2147483648 ≤ a + b) (s1 : a + b ≤ 2147483647) :
    ∃ r, fltN 52 (fromN (a % 4294967296)) (fromN (b % 4294967296)) = r ∧ r < 18446744073709551616 ∧ toN r = (a + b) % 4294967296 := by
  have ha := from_whole a a0 a1
  have hb := from_whole b b0 b1
  generalize fromN (a % 4294967296) = x at *
  generalize fromN (b % 4294967296) = y at *
  have hs := sum_whole ha hb
  rw [sgd_abs, sgd_abs] at hs
  have hw := nearest_whole (if a + b = 0 then decide (a < 0) && decide (b < 0) else decide (a + b < 0)) (a + b).natAbs (by omega)
  have e := sgd_abs' (decide (a < 0)) (decide (b < 0)) (a + b)
  generalize (if a + b = 0 then decide (a < 0) && decide (b < 0) else decide (a + b < 0)) = sg at *
  generalize double.nearest sg (a + b).natAbs 0 = r at *
  refine ⟨r, ?_, hw.1, ?_⟩
  · rw [fltN_52]; exact arithN_num _ _ _ _ (whole_nan ha) (whole_nan hb) ((fb_add x y).trans hs)
  · rw [whole_to hw (by rw [e]; exact s0) (by rw [e]; exact s1), e]
theorem sub_from (a b : Int) (a0 : -2147483648 ≤ a) (a1 : a ≤ 2147483647) (b0 : -2147483648 ≤ b) (b1 : b ≤ 2147483647) (s0 : -2147483648 ≤ a - b) (s1 : a - b ≤ 2147483647) :
    ∃ r, fltN 54 (fromN (a % 4294967296)) (fromN (b % 4294967296)) = r ∧ r < 18446744073709551616 ∧ toN r = (a - b) % 4294967296 := by
  have ha := from_whole a a0 a1
  have hb := from_whole b b0 b1
  generalize fromN (a % 4294967296) = x at *
  generalize fromN (b % 4294967296) = y at *
  have hs := sub_whole ha hb
  rw [sgd_abs, sgd_abs] at hs
  have hw := nearest_whole (if a - b = 0 then decide (a < 0) && !decide (b < 0) else decide (a - b < 0)) (a - b).natAbs (by omega)
  have e := sgd_abs' (decide (a < 0)) (!decide (b < 0)) (a - b)
  generalize (if a - b = 0 then decide (a < 0) && !decide (b < 0) else decide (a - b < 0)) = sg at *
  generalize double.nearest sg (a - b).natAbs 0 = r at *
  refine ⟨r, ?_, hw.1, ?_⟩
  · rw [fltN_54]; exact arithN_num _ _ _ _ (whole_nan ha) (whole_nan hb) ((fb_sub x y).trans hs)
  · rw [whole_to hw (by rw [e]; exact s0) (by rw [e]; exact s1), e]
theorem sgd_mul (s t : Bool) (m n : Nat) : sgd (s ^^ t) (m * n) = sgd s m * sgd t n := by
  unfold sgd; cases s <;> cases t <;> simp [Int.neg_mul, Int.mul_neg]
theorem mul_is (a b : Int) (a0 : -2147483648 ≤ a) (a1 : a ≤ 2147483647) (b0 : -2147483648 ≤ b) (b1 : b ≤ 2147483647) (hp : (a * b).natAbs < 9007199254740992) :
    ∃ s r, fltN 53 (fromN (a % 4294967296)) (fromN (b % 4294967296)) = r ∧ Whole r s (a.natAbs * b.natAbs) ∧ sgd s (a.natAbs * b.natAbs) = a * b ∧ s = (decide (a < 0) ^^ decide (b < 0)) := by
  have ha := from_whole a a0 a1
  have hb := from_whole b b0 b1
  generalize fromN (a % 4294967296) = x at *
  generalize fromN (b % 4294967296) = y at *
  have hs := mul_whole ha hb
  have hw := nearest_whole (decide (a < 0) ^^ decide (b < 0)) (a.natAbs * b.natAbs) (by rw [← Int.natAbs_mul]; exact hp)
  generalize double.nearest (decide (a < 0) ^^ decide (b < 0)) (a.natAbs * b.natAbs) 0 = r at *
  refine ⟨decide (a < 0) ^^ decide (b < 0), r, ?_, hw, by rw [sgd_mul, sgd_abs, sgd_abs], rfl⟩
  rw [fltN_53]; exact arithN_num _ _ _ _ (whole_nan ha) (whole_nan hb) ((fb_mul x y).trans hs)
theorem mul_from (a b : Int) (a0 : -2147483648 ≤ a) (a1 : a ≤ 2147483647) (b0 : -2147483648 ≤ b) (b1 : b ≤ 2147483647) (s0 : -2147483648 ≤ a * b) (s1 : a * b ≤ 2147483647) :
    ∃ r, fltN 53 (fromN (a % 4294967296)) (fromN (b % 4294967296)) = r ∧ r < 18446744073709551616 ∧ toN r = a * b % 4294967296 := by
  obtain ⟨s, r, h1, h2, h3, _⟩ := mul_is a b a0 a1 b0 b1 (by omega)
  refine ⟨r, h1, h2.1, ?_⟩
  rw [whole_to h2 (by rw [h3]; exact s0) (by rw [h3]; exact s1), h3]
theorem quo_from (a k : Int) (a0 : -2147483648 ≤ a) (a1 : a ≤ 2147483647) (k0 : 1 ≤ k) (k1 : k ≤ 7) :
    ∃ r, fltN 56 (fromN (a % 4294967296)) (fromN (k % 4294967296)) = r ∧ r < 18446744073709551616 ∧ toN r = a.tdiv k % 4294967296 := by
  have ha := from_whole a a0 a1
  have hk := from_whole k (by omega) (by omega)
  rw [decide_eq_false (show ¬ k < 0 by omega)] at hk
  obtain ⟨r, hr, ht⟩ := div_whole ha hk (by omega) (by omega) (by omega)
  generalize fromN (a % 4294967296) = x at *
  generalize fromN (k % 4294967296) = y at *
  have e : fltN 56 x y = r := by
    rw [fltN_56]; exact arithN_num _ _ _ _ (whole_nan ha) (whole_nan hk) ((fb_quo x y).trans hr)
  refine ⟨r, e, double.div_lt hr, ?_⟩
  unfold toN
  rw [ht]
  simp only
  have hq : sgd (decide (a < 0)) (a.natAbs / k.natAbs) = a.tdiv k := by
    unfold sgd
    by_cases h : a < 0
    · rw [decide_eq_true h]
      simp only [if_true]
      obtain ⟨n, rfl⟩ : ∃ n : Nat, a = -(n : Int) := ⟨a.natAbs, by omega⟩
      obtain ⟨d, rfl⟩ : ∃ d : Nat, k = (d : Int) := ⟨k.toNat, by omega⟩
      rw [Int.neg_tdiv, Int.natAbs_neg, Int.natAbs_natCast, Int.natAbs_natCast]
      rfl
    · rw [decide_eq_false h]
      simp only [Bool.false_eq_true, if_false]
      obtain ⟨n, rfl⟩ : ∃ n : Nat, a = (n : Int) := ⟨a.toNat, by omega⟩
      obtain ⟨d, rfl⟩ : ∃ d : Nat, k = (d : Int) := ⟨k.toNat, by omega⟩
      rfl
  rw [hq]
  have hb : (a.tdiv k).natAbs ≤ a.natAbs := by rw [Int.natAbs_tdiv]; exact Nat.div_le_self _ _
  by_cases hx : a.tdiv k ≤ 2147483647
  · rw [if_pos ⟨by omega, hx⟩]
  · exfalso
    by_cases h : a < 0
    · have := Int.tdiv_nonneg (a := -a) (b := k) (by omega) (by omega)
      rw [Int.neg_tdiv] at this
      omega
    · omega
theorem cmp_from (a b : Int) (a0 : -2147483648 ≤ a) (a1 : a ≤ 2147483647) (b0 : -2147483648 ≤ b) (b1 : b ≤ 2147483647) :
    cmpC (fromN (a % 4294967296)) (fromN (b % 4294967296)) = decide (a < b) ∧ cmpZ (fromN (a % 4294967296)) (fromN (b % 4294967296)) = (a == b) ∧ cmpP (fromN (a % 4294967296)) (fromN (b % 4294967296)) = false := by
  have ho := order_whole (from_whole a a0 a1) (from_whole b b0 b1)
  rw [sgd_abs, sgd_abs] at ho
  unfold cmpC cmpZ cmpP
  rw [ho]
  rcases Int.lt_trichotomy a b with h | h | h
  · rw [Int.compare_eq_lt.2 h, decide_eq_true h, show (a == b) = false from beq_eq_false_iff_ne.2 (by omega)]; exact ⟨rfl, rfl, rfl⟩
  · subst h; rw [Int.compare_eq_eq.2 rfl]; simp
  · rw [Int.compare_eq_gt.2 h, decide_eq_false (show ¬ a < b by omega), show (a == b) = false from beq_eq_false_iff_ne.2 (by omega)]; exact ⟨rfl, rfl, rfl⟩
theorem fromN_abs (n : Nat) (h : n < 2147483648) : fromN ((n : Int) % 4294967296) = double.nearest false n 0 := by
  unfold fromN
  rw [show wrap32 ((n : Int) % 4294967296) = (n : Int) by unfold wrap32; omega, decide_eq_false (by omega), Int.natAbs_natCast]
theorem sqr_from (k : Int) (k0 : -67108864 ≤ k) (k1 : k ≤ 67108864) (a : Nat) :
    ∃ r, fltN 53 (fromN (k % 4294967296)) (fromN (k % 4294967296)) = r ∧ r < 18446744073709551616 ∧ fltN 58 a r = fromN ((k.natAbs : Int) % 4294967296) := by
  have hkk : k.natAbs * k.natAbs ≤ 67108864 * 67108864 := Nat.mul_le_mul (by omega) (by omega)
  obtain ⟨s, r, h1, h2, h3, h4⟩ := mul_is k k (by omega) (by omega) (by omega) (by omega) (by rw [Int.natAbs_mul]; omega)
  have hs : s = false := by rw [h4]; cases decide (k < 0) <;> rfl
  subst hs
  refine ⟨r, h1, h2.1, ?_⟩
  rw [fltN_58, fromN_abs _ (by omega)]
  exact rootN_num _ _ (whole_nan h2) (sqrt_whole h2)
theorem neg_root (k : Int) (k0 : -2147483648 ≤ k) (k1 : k < 0) (a : Nat) : fltN 58 a (fromN (k % 4294967296)) = 18444492273895866368 := by
  have hw := from_whole k k0 (by omega)
  have hn := whole_nan hw
  have hz : Whole 0 false 0 := ⟨by decide, by
    obtain ⟨x, hx⟩ : ∃ x : Nat, x = 1074 := ⟨_, rfl⟩
    refine ⟨x, ?_⟩
    rw [read_def, if_pos (by decide), Nat.zero_mul, hx]
    rfl⟩
  have ho := order_whole hw hz
  rw [sgd_abs, Int.compare_eq_lt.2 (by exact k1)] at ho
  rcases sqrt_sign _ hn with ⟨h1, h2⟩ | ⟨o, r, h1, h2, h3⟩
  · rw [fltN_58]; exact rootN_none _ hn h2
  · rw [ho] at h1
    injection h1 with h1
    exact absurd h1.symm h2
end Go.Proofs.Ytjapmkaapciegaa
