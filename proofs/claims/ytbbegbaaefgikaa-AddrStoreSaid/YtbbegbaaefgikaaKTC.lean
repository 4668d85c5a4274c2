import Derived.BigQuiet
import Derived.Deep.QuietTactic
import Derived.Laws.BitsAllLaws
import Derived.KernelRfl
import Derived.Deep.DeepCutAuto
import Derived.Test.YtbbegbaaefgikaaKTB
namespace Go.Proofs.Ytbbegbaaefgikaa
section
open Go.ChangeShapes Go.WideShapes Go.ChangeAt Go.RowKit
set_option maxRecDepth 100000
structure Sta where
  r : Nat → Int
  ip : Int
  c : Bool
  p : Bool
  z : Bool
  s : Bool
  o : Bool
  d : Bool
  x : Nat → Int
def staL (s : Sta) : List Value := [.int .u32 (s.r 0), .int .u32 (s.r 1), .int .u32 (s.r 2), .int .u32 (s.r 3), .int .u32 (s.r 4), .int .u32 (s.r 5), .int .u32 (s.r 6), .int .u32 (s.r 7), .int .u32 s.ip, .bool s.c, .bool s.p, .bool s.z, .bool s.s, .bool s.o, .bool s.d, .int .u64 (s.x 0), .int .u64 (s.x 1), .int .u64 (s.x 2), .int .u64 (s.x 3), .int .u64 (s.x 4), .int .u64 (s.x 5), .int .u64 (s.x 6), .int .u64 (s.x 7)]
def staV (s : Sta) : Value := .agg (staL s).toArray
structure StaOk (s : Sta) : Prop where
  r : ∀ i, i < 8 → 0 ≤ s.r i ∧ s.r i < 4294967296
  x : ∀ i, i < 8 → 0 ≤ s.x i ∧ s.x i < 18446744073709551616
  ip : 0 ≤ s.ip ∧ s.ip < 4294967296
theorem info_sta : (Try.prog.info? 29).map (·.size) = some 23 := by kernel_rfl
theorem sta_r (s : Sta) (i : Nat) (h : i < 8) : (staL s)[i]? = some (.int .u32 (s.r i)) := by
  rcases (show i = 0 ∨ i = 1 ∨ i = 2 ∨ i = 3 ∨ i = 4 ∨ i = 5 ∨ i = 6 ∨ i = 7 by omega) with rfl | rfl | rfl | rfl | rfl | rfl | rfl | rfl <;> rfl
theorem sta_x (s : Sta) (i : Nat) (h : i < 8) : (staL s)[15 + i]? = some (.int .u64 (s.x i)) := by
  rcases (show i = 0 ∨ i = 1 ∨ i = 2 ∨ i = 3 ∨ i = 4 ∨ i = 5 ∨ i = 6 ∨ i = 7 by omega) with rfl | rfl | rfl | rfl | rfl | rfl | rfl | rfl <;> rfl
def getF (s : Sta) (o : Opd) : Int :=
  if o.kind = 4 then o.disp
  else if 0 ≤ o.reg ∧ o.reg ≤ 7 then (if o.kind = 1 then s.r o.reg.toNat else if o.kind = 2 then s.r (o.reg % 4).toNat / (if o.reg < 4 then 1 else 256) % 256 else if o.kind = 5 then s.x o.reg.toNat else 0)
  else 0
def putN (g : Nat → Int) (k : Nat) (v : Int) : Nat → Int := fun i => if i = k then v else g i
def byteF (r v : Int) (hi : Bool) : Int := if hi then r / 65536 * 65536 + v % 256 * 256 + r % 256 else r / 256 * 256 + v % 256
def setF (s : Sta) (o : Opd) (v : Int) : Sta :=
  if 0 ≤ o.reg ∧ o.reg ≤ 7 then
    (if o.kind = 1 then { s with r := putN s.r o.reg.toNat (v % 4294967296) }
    else if o.kind = 2 then { s with r := putN s.r (o.reg % 4).toNat (byteF (s.r (o.reg % 4).toNat) v (decide (4 ≤ o.reg))) }
    else if o.kind = 5 then { s with x := putN s.x o.reg.toNat v } else s)
  else s
end
section
open Go.ChangeShapes Go.WideShapes Go.ChangeAt Go.RowKit
set_option maxRecDepth 100000
theorem heap_two {w W : World} {o p : Obj} (h : W = (w.alloc o).alloc p) : W.heap[w.heap.size]? = some o ∧ W.heap[w.heap.size + 1]? = some p ∧ Below w.heap.size w W := by
  subst h
  refine ⟨?_, ?_, below_last (below_last (Below.refl _ _) _) _⟩
  · show ((w.heap.push _).push _)[w.heap.size]? = _
    simp [Array.getElem?_push]
  · show ((w.heap.push o).push p)[w.heap.size + 1]? = _
    rw [show w.heap.size + 1 = (w.heap.push o).size by simp]
    exact Array.getElem?_push_size
end
section
open Go
set_option maxRecDepth 100000
theorem bit_high {n i : Nat} (hn : n < 4294967296) (hi : ¬ i < 32) : n.testBit i = false :=
  Nat.testBit_lt_two_pow (Nat.lt_of_lt_of_le (show n < 2 ^ 32 from hn) (Nat.pow_le_pow_right (by omega) (by omega)))
theorem put_low (n m : Nat) (hn : n < 4294967296) (hm : m < 256) : (n &&& 4294967040) ||| m = n / 256 * 256 + m := by
  have e1 : n / 256 * 256 + m = (n / 256) <<< 8 ||| m := by
    rw [← Nat.shiftLeft_add_eq_or_of_lt (show m < 2 ^ 8 from hm), Nat.shiftLeft_eq]
  rw [e1, show (4294967040 : Nat) = (2 ^ 24 - 1) <<< 8 from rfl]
  apply Nat.eq_of_testBit_eq
  intro i
  rw [Nat.testBit_or, Nat.testBit_or, Nat.testBit_and, Nat.testBit_shiftLeft, Nat.testBit_shiftLeft, Nat.testBit_two_pow_sub_one, show n / 256 = n >>> 8 by rw [Nat.shiftRight_eq_div_pow], Nat.testBit_shiftRight]
  by_cases h8 : 8 ≤ i
  · rw [show 8 + (i - 8) = i by omega]
    by_cases h32 : i < 32
    · simp [h8, show i - 8 < 24 by omega]
    · simp [bit_high hn h32]
  · simp [h8]
theorem put_high (n m : Nat) (hn : n < 4294967296) (hm : m < 256) : (n &&& 4294902015) ||| (m * 256) = n / 65536 * 65536 + m * 256 + n % 256 := by
  have e1 : n / 65536 * 65536 + m * 256 + n % 256 = (n / 65536) <<< 16 ||| (m <<< 8 ||| n % 2 ^ 8) := by
    have h1 : m <<< 8 ||| n % 2 ^ 8 = m * 256 + n % 256 := by
      rw [← Nat.shiftLeft_add_eq_or_of_lt (Nat.mod_lt _ (by decide)), Nat.shiftLeft_eq]
    rw [h1, ← Nat.shiftLeft_add_eq_or_of_lt (show m * 256 + n % 256 < 2 ^ 16 by omega), Nat.shiftLeft_eq]
    omega
  rw [e1, show (4294902015 : Nat) = (2 ^ 16 - 1) <<< 16 ||| (2 ^ 8 - 1) from rfl, show m * 256 = m <<< 8 by rw [Nat.shiftLeft_eq]]
  apply Nat.eq_of_testBit_eq
  intro i
  simp only [Nat.testBit_or, Nat.testBit_and, Nat.testBit_shiftLeft, Nat.testBit_two_pow_sub_one, Nat.testBit_mod_two_pow, show n / 65536 = n >>> 16 by rw [Nat.shiftRight_eq_div_pow], Nat.testBit_shiftRight]
  by_cases h16 : 16 ≤ i
  · rw [show 16 + (i - 16) = i by omega]
    have h8 : ¬ i < 8 := by omega
    by_cases h32 : i < 32
    · simp [h16, h8, show i - 16 < 16 by omega]
    · simp [h16, h8, bit_high hn h32]
  · by_cases h8 : i < 8
    · simp [h16, h8, show ¬ 8 ≤ i by omega]
    · simp [h16, h8]
theorem bits_put0 (R x : Int) (h0 : 0 ≤ R) (h1 : R < 4294967296) (x0 : 0 ≤ x) (x1 : x < 256) : bits .or .u32 (bits .andNot .u32 R 255) x = R / 256 * 256 + x := by
  obtain ⟨n, rfl⟩ := Int.eq_ofNat_of_zero_le h0
  obtain ⟨m, rfl⟩ := Int.eq_ofNat_of_zero_le x0
  rw [u32_andNot n 255 h0 h1 (by decide) (by decide), Int.toNat_natCast, show (4294967295 - Int.toNat 255) = 4294967040 from rfl]
  have hle : n &&& 4294967040 ≤ n := Nat.and_le_left
  rw [u32_or_nat _ _ (by omega) (by omega), put_low n m (by omega) (by omega)]
  omega
theorem bits_put8 (R x : Int) (h0 : 0 ≤ R) (h1 : R < 4294967296) (x0 : 0 ≤ x) (x1 : x < 256) : bits .or .u32 (bits .andNot .u32 R 65280) (x * 256) = R / 65536 * 65536 + x * 256 + R % 256 := by
  obtain ⟨n, rfl⟩ := Int.eq_ofNat_of_zero_le h0
  obtain ⟨m, rfl⟩ := Int.eq_ofNat_of_zero_le x0
  rw [u32_andNot n 65280 h0 h1 (by decide) (by decide), Int.toNat_natCast, show (4294967295 - Int.toNat 65280) = 4294902015 from rfl]
  have hle : n &&& 4294902015 ≤ n := Nat.and_le_left
  rw [show (m : Int) * 256 = ((m * 256 : Nat) : Int) by omega, u32_or_nat _ _ (by omega) (by omega), put_high n m (by omega) (by omega)]
  omega
end
section
open Go.ChangeShapes Go.WideShapes Go.ChangeAt Go.RowKit
set_option maxRecDepth 100000
theorem store_row {P : Program} {ops : Array Oper} {rest : List Oper} {op : Oper} {a : Act} {w : World} {Q : Exit → Act → World → Prop} (hgd : op.guard = none) (T : TypeId) (x y : Operand) (ho : op.op = .store T x y)
    (R : Nat) (hx : a.eval x = .pointer (some ⟨R, 0, none⟩)) (C : List Value) (hy : a.eval y = .agg C.toArray) (d : TypeDesc) (hu : P.underlying T = some d) (hd : d.isRow = true) (hi : (P.info? T).map (·.size) = some C.length) (h1 : C.toArray.all (·.oneCell') = true) (ht : w.there R 0 C.length)
    (hK : ∀ Y, Y = w.setCells R 0 C → (loadVar T ⟨R, 0, none⟩).run P Y = .ok (.agg C.toArray) Y → wpList P ops Q rest (a.put op.dst undef) Y) : wpList P ops Q (op :: rest) a w := by
  refine wpList_store_mid hgd T x y ho R 0 C.toArray hx hy (by simpa using ht) (by simpa using hi) h1 ?_
  have hr := World.rangeAt_setCells_same w R 0 C ht
  have hl := load_range (P := P) T d hu hd hi hr
  exact hK _ rfl hl
theorem results_cell {P : Program} {fn : Func} {a : Nat} {T : TypeId} {tmps : Array Value} {p : Addr} {c : Value} {u : World} (hr : fn.results = #[.cell a T]) (ha : tmps.getD a undef = .pointer (some p)) (hl : (loadVar T p).run P u = .ok c u) : (results fn tmps).run P u = .ok c u := by
  have h : results fn tmps = (do loadVar T (← asAddr (tmps.getD a undef))) := by
    unfold results
    rw [hr]
    simp
  rw [h, ha]
  simp only [asAddr, Sem.run_bind, Sem.run_pure, Result.andThen, hl]
theorem info_opd1 : (Try.prog.info? 32).map (·.size) = some 6 := by kernel_rfl
def opL' (o : Opd) : List Value := [.int .i64 o.kind, .int .i64 o.reg, .int .i64 o.base, .int .i64 o.index, .int .i64 o.scale, .int .u32 o.disp]
theorem there_alloc_new (w : World) (C : Array Value) (T : TypeId) (n : Nat) (hn : n ≤ C.size) : (w.alloc (.cells C T)).there w.heap.size 0 n := by
  have h : (w.alloc (.cells C T)).heap[w.heap.size]? = some (.cells C T (0, 0)) := by
    show (w.heap.push _)[w.heap.size]? = _
    simp
  exact there_block h 0 n (by omega)
theorem But.cells {F : Nat → Prop} {w w' : World} (h : But F w w') {R : Nat} (hR : R < w.heap.size → F R) : ∀ (vs : List Value) (o : Nat), But F w (w'.setCells R o vs) := by
  intro vs
  induction vs generalizing w' with
  | nil => intro o; exact h
  | cons v vs ih => intro o; exact ih (h.setCell (a := ⟨R, o, none⟩) hR v) (o + 1)
theorem setCells_size (R : Nat) : ∀ (vs : List Value) (o : Nat) (w : World), (w.setCells R o vs).heap.size = w.heap.size
  | [], _, _ => rfl
  | v :: vs, o, w => (setCells_size R vs (o + 1) _).trans (by simp [World.setCell])
end
end Go.Proofs.Ytbbegbaaefgikaa
