import Derived.BigQuiet
import Derived.Deep.QuietTactic
import Derived.WideMake
import Derived.Carry
import Derived.Deep.MidRow
import Derived.Deep.RegionWith
import Derived.Test.YtgihiddiceinhaaDoorKNC
namespace Go.Proofs.YtgihiddiceinhaaDoor
section
open Go.ChangeShapes Go.WideShapes Go.ChangeAt Go.RowKit
def frmV (f : Frm) : Value := .agg #[.int .i64 f.op, .int .i64 f.cond, .int .i64 f.size, .string ⟨f.how.toArray⟩, .int .i64 f.c]
def fstV (x : Frm × Bool × Bool) : Value := .tuple #[frmV x.1, .bool x.2.1, .bool x.2.2]
theorem and1 (z : Int) (h0 : 0 ≤ z) (h1 : z < 256) : bits .and .u8 z 1 = z % 2 := by
  obtain ⟨k, rfl⟩ : ∃ k : Nat, z = (k : Int) := ⟨z.toNat, by omega⟩
  have := u8_and_nat k 1 (by omega) (by omega)
  rw [show ((1 : Nat) : Int) = 1 from rfl] at this
  rw [this, show k &&& 1 = k % 2 from Nat.and_two_pow_sub_one_eq_mod k 1]
  rfl
theorem and15 (z : Int) (h0 : 0 ≤ z) (h1 : z < 256) : bits .and .u8 z 15 = z % 16 := by
  obtain ⟨k, rfl⟩ : ∃ k : Nat, z = (k : Int) := ⟨z.toNat, by omega⟩
  have := u8_and_nat k 15 (by omega) (by omega)
  rw [show ((15 : Nat) : Int) = 15 from rfl] at this
  rw [this, show k &&& 15 = k % 16 from Nat.and_two_pow_sub_one_eq_mod k 4]
  rfl
theorem size4_any (c : Int) (c0 : 0 ≤ c) (c1 : c < 256) (w : World) : Calls Tryd.prog 42 #[.int .u8 c] w fun e w' => e = .returned (.int .i64 (1 + 3 * (c % 2))) ∧ w = w' := by
  have a1 := and1 c c0 c1
  go_enter Tryd.func42, Tryd.ntmps42
  go_wp2
  go_ret
  exact ⟨rfl, rfl⟩
theorem is_any (c op size : Int) (how : ByteArray) (c0 : 0 ≤ c) (c1 : c < 256) (w : World) : Calls Tryd.prog 43 #[.int .u8 c, .int .i64 op, .int .i64 size, .string how] w fun e w' => e = .returned (.tuple #[.agg #[.int .i64 op, .int .i64 0, .int .i64 size, .string how, .int .i64 (c % 8)], .bool (op != 0), .bool false]) ∧ Below w.heap.size w w' := by
  have a1 := and7 c c0 c1
  have a2 : IntKind.i64.wrap (c % 8) = c % 8 := by rw [IntKind.wrap_i64]; omega
  go_enter Tryd.func43, Tryd.ntmps43
  go_wp2
  go_returns
  exact ⟨rfl, below_last (Below.refl _ _) _⟩
theorem alu_any (n : Int) (n0 : 0 ≤ n) (n1 : n < 8) (w : World) : Calls Tryd.prog 44 #[.int .i64 n] w fun e w' => e = .returned (.int .i64 (grpF alus n)) ∧ Below w.heap.size w w' := by
  have h8 : n = 0 ∨ n = 1 ∨ n = 2 ∨ n = 3 ∨ n = 4 ∨ n = 5 ∨ n = 6 ∨ n = 7 := by omega
  rcases h8 with rfl | rfl | rfl | rfl | rfl | rfl | rfl | rfl
  all_goals
    go_enter Tryd.func44, Tryd.ntmps44
    go_wp2
    go_ret
    exact ⟨rfl, below_last (Below.refl _ _) _⟩
theorem group_any (l : List Int) (reg : Int) (ad : Addr) (r0 : 0 ≤ reg) (r1 : reg < 8) (_ : l.length ≤ 100) (w : World) (hc : ∀ i, i < l.length → w.cell? (ad.add i) = some (.int .i64 (lst l i))) : Calls Tryd.prog 58 #[.slice (some ad) l.length l.length, .int .i64 reg] w fun e w' => e = .returned (.int .i64 (grpF l reg)) ∧ w = w' := by
  obtain ⟨r, rfl⟩ : ∃ r : Nat, reg = (r : Int) := ⟨reg.toNat, by omega⟩
  by_cases h : r < l.length
  · have hr := hc r h
    have hV := Lib.hid (show grpF l (r : Int) = lst l r by unfold grpF lst; rw [Int.toNat_natCast])
    have hd : decide ((r : Int) < (l.length : Int)) = true := decide_eq_true (by omega)
    have hi : (r : Int) < (l.length : Int) := by omega
    clear hc
    go_enter Tryd.func58, Tryd.ntmps58
    go_wp2
    go_ret
    exact ⟨by rw [hV.out]; rfl, rfl⟩
  · have hV := Lib.hid (show grpF l (r : Int) = 0 by unfold grpF; rw [Int.toNat_natCast, List.getD_eq_getElem?_getD, List.getElem?_eq_none (by omega)]; rfl)
    have hd : decide ((r : Int) < (l.length : Int)) = false := decide_eq_false (by omega)
    clear hc
    go_enter Tryd.func58, Tryd.ntmps58
    go_wp2
    go_ret
    exact ⟨by rw [hV.out]; rfl, rfl⟩
theorem shifts_any (w : World) : Calls Tryd.prog 46 #[] w fun e w' => e = .returned (.slice (some ⟨w.heap.size, 0, none⟩) 8 8) ∧ w' = w.alloc (.cells #[.int .i64 26, .int .i64 27, .int .i64 0, .int .i64 0, .int .i64 28, .int .i64 29, .int .i64 0, .int .i64 30] 3) := by
  go_enter Tryd.func46, Tryd.ntmps46
  go_wp2
  go_ret
  exact ⟨rfl, rfl⟩
attribute [local go_sem] isSome_setCell
theorem by_any (c reg size : Int) (l : List Int) (how : List UInt8) (ad : Addr) (c0 : 0 ≤ c) (c1 : c < 256) (_ : -1 ≤ reg) (r1 : reg < 8) (hl : l.length ≤ 100) (w : World) (hc : ∀ i, i < l.length → w.cell? (ad.add i) = some (.int .i64 (lst l i))) :
    Calls Tryd.prog 45 #[.int .u8 c, .int .i64 reg, .slice (some ad) l.length l.length, .int .i64 size, .string ⟨how.toArray⟩] w fun e w' => e = .returned (fstV (byF c reg l size how)) ∧ Below w.heap.size w w' := by
  by_cases h : reg < 0
  · have hV := Lib.hid (show byF c reg l size how = (nilF, false, true) by unfold byF; rw [if_pos h])
    have hd : decide (reg < 0) = true := decide_eq_true h
    clear hc
    go_enter Tryd.func45, Tryd.ntmps45
    go_wp2
    go_returns
    exact ⟨by rw [hV.out]; rfl, below_last (Below.refl _ _) _⟩
  · have hV := Lib.hid (show byF c reg l size how = isF c (grpF l reg) size how by unfold byF; rw [if_neg h])
    have hd : decide (reg < 0) = false := decide_eq_false h
    have HC := Lib.hid hc
    clear hc
    go_enter Tryd.func45, Tryd.ntmps45
    go_wp2_with fail
    refine (group_any l reg ad (by omega) r1 hl _ (fun i hi => cell_call (below_last (Below.refl _ _) _) (HC.out i hi))).mono ?_
    rintro e w1 ⟨rfl, rfl⟩
    go_wp2_with fail
    refine (is_any c _ size _ c0 c1 _).mono ?_
    rintro e w1 ⟨rfl, B1⟩
    have HB := Lib.hid (below_step (below_last (Below.refl _ _) _) B1)
    obtain ⟨q1, hz⟩ := bcell B1
    clear B1
    go_wp2_with fail
    refine bodyPost_ret (v := .tuple #[.agg #[.int .i64 (grpF l reg), .int .i64 0, .int .i64 size, .string ⟨how.toArray⟩, .int .i64 (c % 8)], .bool (grpF l reg != 0), .bool false]) (by simp [results, Tryd.results45, go_sem, q1]) rfl ⟨by rw [hV.out]; rfl, ?_⟩
    exact ((((HB.out.setCell (Nat.le_refl _) _).setCell (Nat.le_refl _) _).setCell (Nat.le_refl _) _).setCell (Nat.le_refl _) _).setCell (Nat.le_refl _) _
def fstL (x : Frm × Bool × Bool) : Value := .tuple #[.agg #[.int .i64 x.1.op, .int .i64 x.1.cond, .int .i64 x.1.size, .string ⟨x.1.how.toArray⟩, .int .i64 x.1.c], .bool x.2.1, .bool x.2.2]
theorem by_new (c reg size : Int) (l : List Int) (how : List UInt8) (T : TypeId) (c0 : 0 ≤ c) (c1 : c < 256) (r0 : -1 ≤ reg) (r1 : reg < 8) (hl : l.length ≤ 100) (x : Frm × Bool × Bool) (hx : Hid (byF c reg l size how = x)) (w : World) (B n : Nat) (C : Array Value) (s : ByteArray) (hB : B = w.heap.size) (hn : n = l.length) (hC : C = (l.map (Value.int .i64)).toArray) (hs : s = ⟨how.toArray⟩) :
    Calls Tryd.prog 45 #[.int .u8 c, .int .i64 reg, .slice (some ⟨B, 0, none⟩) n n, .int .i64 size, .string s] (w.alloc (.cells C T)) fun e w' => e = .returned (.tuple #[.agg #[.int .i64 x.1.op, .int .i64 x.1.cond, .int .i64 x.1.size, .string ⟨x.1.how.toArray⟩, .int .i64 x.1.c], .bool x.2.1, .bool x.2.2]) ∧ Below (w.alloc (.cells C T)).heap.size (w.alloc (.cells C T)) w' := by
  subst hB hn hC hs
  exact (by_any c reg size l how ⟨w.heap.size, 0, none⟩ c0 c1 r0 r1 hl _ (fun i hi => by
    rw [addr_add, Nat.zero_add, World.cell?_alloc_new]
    simp [lst, List.getD_eq_getElem?_getD, List.getElem?_eq_getElem hi])).mono fun e w' ⟨he, hb⟩ => ⟨by rw [he, hx.out]; rfl, hb⟩
theorem five_kept {w w1 : World} {a b c d e : Value} {T : TypeId} (h : Below (w.heap.size + 1) (w.alloc (.cells #[a, b, c, d, e] T)) w1) :
    w1.cell? ⟨w.heap.size, 0, none⟩ = some a ∧ w1.cell? ⟨w.heap.size, 1, none⟩ = some b ∧ w1.cell? ⟨w.heap.size, 2, none⟩ = some c ∧ w1.cell? ⟨w.heap.size, 3, none⟩ = some d ∧ w1.cell? ⟨w.heap.size, 4, none⟩ = some e ∧ ∀ i, w1.frozen? ⟨w.heap.size, i, none⟩ = false := by
  refine ⟨?_, ?_, ?_, ?_, ?_, fun i => by rw [h.frozen (by simp)]; simp⟩
  all_goals rw [h.cell (by simp), World.cell?_alloc_new]; rfl
theorem five_kept0 {w w1 : World} {a b c d e : Value} {T : TypeId} (h : Below (w.alloc (.cells #[a, b, c, d, e] T)).heap.size (w.alloc (.cells #[a, b, c, d, e] T)) w1) : Below (w.heap.size + 1) (w.alloc (.cells #[a, b, c, d, e] T)) w1 := by
  have e' : (w.alloc (.cells #[a, b, c, d, e] T)).heap.size = w.heap.size + 1 := by simp
  rwa [e'] at h
theorem five_kept1 {w w1 : World} {a b c d e : Value} {T : TypeId} {o : Obj} (h : Below ((w.alloc (.cells #[a, b, c, d, e] T)).alloc o).heap.size ((w.alloc (.cells #[a, b, c, d, e] T)).alloc o) w1) : Below (w.heap.size + 1) (w.alloc (.cells #[a, b, c, d, e] T)) w1 := by
  have := ((Below.refl (w.heap.size + 1) (w.alloc (.cells #[a, b, c, d, e] T))).alloc (by simp) o).trans (h.mono (by simp))
  exact this
theorem below5 {w w1 : World} {B : Nat} {a b c d e : Value} (h : Below B w w1) (o : Nat) (ho : B ≤ o) : Below B w (((((w1.setCell ⟨o, 0, none⟩ a).setCell ⟨o, 1, none⟩ b).setCell ⟨o, 2, none⟩ c).setCell ⟨o, 3, none⟩ d).setCell ⟨o, 4, none⟩ e) :=
  ((((h.setCell ho _).setCell ho _).setCell ho _).setCell ho _).setCell ho _
end
section
open Go.ChangeShapes Go.WideShapes Go.ChangeAt Go.RowKit
def regO (k r : Int) : Opd := ⟨k, r, -1, -1, 1, 0⟩
def numO (v : Int) : Opd := ⟨4, 0, -1, -1, 1, v⟩
def turnO (o : Opd) (k : Int) : Opd := if o.kind = 1 then regO k o.reg else o
def smallO (size r : Int) : Opd := if size = 1 then regO 2 r else regO 1 r
def isRM (c : UInt8) : Bool := c == 69 || c == 71 || c == 103 || c == 101 || c == 88 || c == 89
def hasF (l : List UInt8) : Bool := l.any isRM
theorem rnumber_any (v : Int) (w : World) : Calls Tryd.prog 52 #[.int .u32 v] w fun e w' => e = .returned (opV (numO v)) ∧ Below w.heap.size w w' := by
  go_enter Tryd.func52, Tryd.ntmps52
  go_wp2_with (go_at_call 26; refine (rnone_any _).mono ?_; rintro e w' ⟨rfl, rfl⟩)
  go_returns
  exact ⟨rfl, below_last (below_last (below_last (Below.refl _ _) _) _) _⟩
theorem rregister_below (k r : Int) (w : World) : Calls Tryd.prog 47 #[.int .i64 k, .int .i64 r] w fun e w' => e = .returned (opV (regO k r)) ∧ Below w.heap.size w w' :=
  (rregister_any k r w).mono fun e w' ⟨h1, h2⟩ => ⟨h1, by rw [h2]; exact below_last (below_last (below_last (Below.refl _ _) _) _) _⟩
theorem rsmall_any (size r : Int) (w : World) : Calls Tryd.prog 51 #[.int .i64 size, .int .i64 r] w fun e w' => e = .returned (opV (smallO size r)) ∧ Below w.heap.size w w' := by
  by_cases h : size = 1
  · subst h
    go_enter Tryd.func51, Tryd.ntmps51
    go_wp2_with (go_at_call 47; refine (rregister_any _ _ _).mono ?_; rintro e w' ⟨rfl, rfl⟩)
    go_returns
    exact ⟨rfl, by repeat (first | exact Below.refl _ _ | (with_reducible refine below_last ?_ _))⟩
  · have hV := Lib.hid (show smallO size r = regO 1 r by unfold smallO; rw [if_neg h])
    have e1 : (size == 1) = false := by simpa using h
    clear h
    go_enter Tryd.func51, Tryd.ntmps51
    go_wp2_with (go_at_call 47; refine (rregister_any _ _ _).mono ?_; rintro e w' ⟨rfl, rfl⟩)
    go_returns
    exact ⟨by rw [hV.out]; rfl, by repeat (first | exact Below.refl _ _ | (with_reducible refine below_last ?_ _))⟩
theorem rturned_any (o : Opd) (k : Int) (w : World) : Calls Tryd.prog 50 #[opV o, .int .i64 k] w fun e w' => e = .returned (opV (turnO o k)) ∧ Below w.heap.size w w' := by
  obtain ⟨kind, rg, base, index, scale, disp⟩ := o
  by_cases h : kind = 1
  · subst h
    unfold opV
    go_enter Tryd.func50, Tryd.ntmps50
    go_wp2_with (go_at_call 47; refine (rregister_any _ _ _).mono ?_; rintro e w' ⟨rfl, rfl⟩)
    go_returns
    exact ⟨rfl, by repeat (first | exact Below.refl _ _ | (with_reducible refine below_last ?_ _))⟩
  · have hV := Lib.hid (show turnO ⟨kind, rg, base, index, scale, disp⟩ k = ⟨kind, rg, base, index, scale, disp⟩ by unfold turnO; rw [if_neg h])
    have e1 : (kind == 1) = false := by simpa using h
    clear h
    rw [hV.out]
    unfold opV
    go_enter Tryd.func50, Tryd.ntmps50
    go_wp2
    go_returns
    exact ⟨rfl, by repeat (first | exact Below.refl _ _ | (with_reducible refine below_last ?_ _))⟩
def behF (L : Nat) (bs : Nat → Int) (k : Nat) : Int := if k < L then bs k / 8 % 8 else -1
def behM (L : Nat) (bs : Nat → Int) (k : Nat) : Bool := decide (k < L) && (bs k / 64 == 3)
theorem rbehind_any (v : Value) (L : Nat) (bs : Nat → Int) (hb : ∀ i, 0 ≤ bs i ∧ bs i < 256) (k : Nat) (w : World) (hs : Slc .u8 w v L bs) :
    Calls Tryd.prog 25 #[v, .int .i64 (k : Int)] w fun e w' => e = .returned (.tuple #[.int .i64 (behF L bs k), .bool (behM L bs k)]) ∧ ∃ nq, w' = w.drewN nq := by
  by_cases h : k < L
  · rcases hs with ⟨_, h0⟩ | ⟨ad, cap, rfl, hl, hc⟩
    · omega
    have hV := Lib.hid (show behF L bs k = bs k / 8 % 8 by unfold behF; rw [if_pos h])
    have hM := Lib.hid (show behM L bs k = (bs k / 64 == 3) by unfold behM; rw [decide_eq_true h]; rfl)
    have hck := hc k h
    have hbk := hb k
    have a1 := and7 (bs k / 8) (by omega) (by omega)
    have hd : decide ((L : Int) ≤ (k : Int)) = false := decide_eq_false (by omega)
    have hd' : decide (L ≤ k) = false := decide_eq_false (by omega)
    have hi : (k : Int) < (L : Int) := by omega
    clear hc hb
    generalize bs k = x at *
    go_enter Tryd.func25, Tryd.ntmps25
    go_wp2_with fail
    go_quiet (fail)
    go_wp2_with fail
    go_ret2
    exact ⟨by rw [hV.out, hM.out]; rfl, _, rfl⟩
  · obtain ⟨a, cap, rfl⟩ := hs.len
    have hV := Lib.hid (show behF L bs k = -1 by unfold behF; rw [if_neg h])
    have hM := Lib.hid (show behM L bs k = false by unfold behM; rw [decide_eq_false h]; rfl)
    have hd : decide ((L : Int) ≤ (k : Int)) = true := decide_eq_true (by omega)
    have hd' : decide (L ≤ k) = true := decide_eq_true (by omega)
    clear hs h hb
    go_enter Tryd.func25, Tryd.ntmps25
    go_wp2
    go_ret2
    exact ⟨by rw [hV.out, hM.out]; rfl, 0, rfl⟩
theorem u8_of_toNat {c : UInt8} {n : Nat} (hn : n < 256) (h : (c.toNat : Int) = n) : c = UInt8.ofNat n := by
  apply UInt8.toNat_inj.1
  rw [UInt8.toNat_ofNat']
  omega
theorem isRM_int (c : UInt8) : isRM c = ((c.toNat : Int) == 69 || (c.toNat : Int) == 71 || (c.toNat : Int) == 103 || (c.toNat : Int) == 101 || (c.toNat : Int) == 88 || (c.toNat : Int) == 89) := by
  have h : ∀ n : Nat, n < 256 → (c == UInt8.ofNat n) = ((c.toNat : Int) == (n : Int)) := fun n hn => by
    rw [Bool.eq_iff_iff, beq_iff_eq, beq_iff_eq]
    constructor
    · rintro rfl
      rw [UInt8.toNat_ofNat']
      omega
    · exact u8_of_toNat hn
  unfold isRM
  rw [show (69 : UInt8) = UInt8.ofNat 69 from rfl, show (71 : UInt8) = UInt8.ofNat 71 from rfl, show (103 : UInt8) = UInt8.ofNat 103 from rfl, show (101 : UInt8) = UInt8.ofNat 101 from rfl, show (88 : UInt8) = UInt8.ofNat 88 from rfl, show (89 : UInt8) = UInt8.ofNat 89 from rfl]
  rw [h 69 (by decide), h 71 (by decide), h 103 (by decide), h 101 (by decide), h 88 (by decide), h 89 (by decide)]
  rfl
theorem hasF_snoc (l : List UInt8) (k : Nat) (h : k < l.length) : hasF (l.take (k + 1)) = (hasF (l.take k) || isRM l[k]) := by
  unfold hasF
  rw [List.take_succ_eq_append_getElem h, List.any_append]
  simp
theorem hasF_at (l : List UInt8) (k : Nat) (h : k < l.length) (hr : isRM l[k] = true) : hasF l = true := by
  unfold hasF
  rw [List.any_eq_true]
  exact ⟨l[k], List.getElem_mem h, hr⟩
set_option maxHeartbeats 1000000
theorem rhasrm_any (s : ByteArray) (hl : s.size ≤ 100) (w : World) :
    Calls Tryd.prog 27 #[.string s] w fun e w' => e = .returned (.bool (hasF s.data.toList)) ∧ w' = w := by
  go_enter Tryd.func27, Tryd.ntmps27
  go_wp2
  go_loop [3] (fun i => ∃ k : Nat, k ≤ s.size ∧ i = .int .i64 k ∧ hasF (s.data.toList.take k) = false) (fun i => s.size - (intOf i).toNat)
  case atStart => exact ⟨0, Nat.zero_le _, rfl, rfl⟩
  case round =>
    obtain ⟨k, hk, rfl, hno⟩ := hrel
    by_cases hlt : k < s.size
    · have hkl : k < s.data.toList.length := by simpa using hlt
      have hget : s.data.toList[k] = s[k] := rfl
      have hrm := isRM_int s[k]
      have HY := Lib.hid (fun hr : isRM s[k] = true => hasF_at s.data.toList k hkl (by rw [hget]; exact hr))
      have HN := Lib.hid (fun hr : isRM s[k] = false => (show hasF (s.data.toList.take (k + 1)) = false by rw [hasF_snoc _ k hkl, hno, hget, hr]; rfl))
      have HR := Lib.hid hrm
      clear hrm hget hno
      by_cases c69 : ((s[k].toNat : Int) == 69) = true
      · have HF := Lib.hid (HY.out (by rw [HR.out, c69]; rfl))
        clear HY HN HR
        go_wp2
        go_ret
        exact ⟨by rw [HF.out]; rfl, rfl⟩
      replace c69 : ((s[k].toNat : Int) == 69) = false := Bool.eq_false_iff.2 c69
      by_cases c71 : ((s[k].toNat : Int) == 71) = true
      · have HF := Lib.hid (HY.out (by rw [HR.out, c69, c71]; rfl))
        clear HY HN HR
        go_wp2
        go_ret
        exact ⟨by rw [HF.out]; rfl, rfl⟩
      replace c71 : ((s[k].toNat : Int) == 71) = false := Bool.eq_false_iff.2 c71
      by_cases c103 : ((s[k].toNat : Int) == 103) = true
      · have HF := Lib.hid (HY.out (by rw [HR.out, c69, c71, c103]; rfl))
        clear HY HN HR
        go_wp2
        go_ret
        exact ⟨by rw [HF.out]; rfl, rfl⟩
      replace c103 : ((s[k].toNat : Int) == 103) = false := Bool.eq_false_iff.2 c103
      by_cases c101 : ((s[k].toNat : Int) == 101) = true
      · have HF := Lib.hid (HY.out (by rw [HR.out, c69, c71, c103, c101]; rfl))
        clear HY HN HR
        go_wp2
        go_ret
        exact ⟨by rw [HF.out]; rfl, rfl⟩
      replace c101 : ((s[k].toNat : Int) == 101) = false := Bool.eq_false_iff.2 c101
      by_cases c88 : ((s[k].toNat : Int) == 88) = true
      · have HF := Lib.hid (HY.out (by rw [HR.out, c69, c71, c103, c101, c88]; rfl))
        clear HY HN HR
        go_wp2
        go_ret
        exact ⟨by rw [HF.out]; rfl, rfl⟩
      replace c88 : ((s[k].toNat : Int) == 88) = false := Bool.eq_false_iff.2 c88
      by_cases c89 : ((s[k].toNat : Int) == 89) = true
      · have HF := Lib.hid (HY.out (by rw [HR.out, c69, c71, c103, c101, c88, c89]; rfl))
        clear HY HN HR
        go_wp2
        go_ret
        exact ⟨by rw [HF.out]; rfl, rfl⟩
      replace c89 : ((s[k].toNat : Int) == 89) = false := Bool.eq_false_iff.2 c89
      have HF := Lib.hid (HN.out (by rw [HR.out, c69, c71, c103, c101, c88, c89]; rfl))
      clear HY HN HR
      go_wp2
      go_round
      case rel => exact ⟨k + 1, by omega, by go_num, HF.out⟩
      case measure => simp [intOf]; omega
    · have hke : k = s.size := by omega
      have HF := Lib.hid (show hasF s.data.toList = false by rw [← hno, hke, List.take_of_length_le (by simp)])
      clear hno hke
      go_wp2
      go_ret
      exact ⟨by rw [HF.out]; rfl, rfl⟩
end
section
open Go.ChangeShapes Go.WideShapes Go.ChangeAt Go.RowKit
structure Ins where
  op : Int
  cond : Int
  size : Int
  a : Opd
  b : Opd
  c : Int
  rep : Bool
  len : Int
  deriving DecidableEq
def insC (i : Ins) : Array Value := #[.int .i64 i.op, .int .i64 i.cond, .int .i64 i.size, .int .i64 i.a.kind, .int .i64 i.a.reg, .int .i64 i.a.base, .int .i64 i.a.index, .int .i64 i.a.scale, .int .u32 i.a.disp, .int .i64 i.b.kind, .int .i64 i.b.reg, .int .i64 i.b.base, .int .i64 i.b.index, .int .i64 i.b.scale, .int .u32 i.b.disp, .int .u32 i.c, .bool i.rep, .int .i64 i.len]
def insV (i : Ins) : Value := .agg (insC i)
def zeroO : Opd := ⟨0, 0, 0, 0, 0, 0⟩
def noneO : Opd := ⟨0, 0, -1, -1, 1, 0⟩
def zeroI : Ins := ⟨0, 0, 0, zeroO, zeroO, 0, false, 0⟩
structure Mst where
  l : List Opd
  c : Int
  at_ : Nat
def needF (size : Int) (c : UInt8) : Nat := if c = 73 then (if size = 4 then 4 else 1) else if c = 98 ∨ c = 66 then 1 else if c = 119 then 2 else if c = 105 ∨ c = 76 ∨ c = 109 then 4 else 0
def valF (need : Nat) (c : UInt8) (bs : Nat → Int) (k : Nat) : Int := if need = 1 then (if c = 73 then bs k else sx9 (bs k)) else if need = 2 then bs k + bs (k + 1) * 256 else if need = 4 then four9 (bs k) (bs (k + 1)) (bs (k + 2)) (bs (k + 3)) else 0
def pushF (f : Frm) (rm : Opd) (reg v : Int) (c : UInt8) : List Opd :=
  if c = 69 then [if f.size = 1 then turnO rm 2 else rm] else if c = 101 then [rm] else if c = 89 then [turnO rm 5] else if c = 71 then [smallO f.size reg] else if c = 103 then [regO 1 reg]
  else if c = 88 then [regO 5 reg] else if c = 114 then [smallO f.size f.c] else if c = 97 then [smallO f.size 0] else if c = 49 then [numO 1] else if c = 99 then [regO 2 1] else if c = 109 then [⟨3, 0, -1, -1, 1, v⟩]
  else if c = 76 ∨ c = 66 then [] else if c = 73 ∨ c = 98 ∨ c = 119 ∨ c = 105 then [numO v] else []
def stepM (f : Frm) (rm : Opd) (reg : Int) (L : Nat) (bs : Nat → Int) (s : Mst) (c : UInt8) : Option Mst :=
  if L < s.at_ + needF f.size c then none
  else some ⟨s.l ++ pushF f rm reg (valF (needF f.size c) c bs s.at_) c, if c = 76 ∨ c = 66 then valF (needF f.size c) c bs s.at_ else s.c, s.at_ + needF f.size c⟩
def runM (f : Frm) (rm : Opd) (reg : Int) (L : Nat) (bs : Nat → Int) : List UInt8 → Mst → Option Mst
  | [], s => some s
  | c :: l, s => (stepM f rm reg L bs s c).bind (runM f rm reg L bs l)
theorem runM_append (f : Frm) (rm : Opd) (reg : Int) (L : Nat) (bs : Nat → Int) (l m : List UInt8) (s : Mst) : runM f rm reg L bs (l ++ m) s = (runM f rm reg L bs l s).bind (runM f rm reg L bs m) := by
  induction l generalizing s with
  | nil => rfl
  | cons c l ih =>
    show (stepM f rm reg L bs s c).bind _ = ((stepM f rm reg L bs s c).bind _).bind _
    cases stepM f rm reg L bs s c with
    | none => rfl
    | some t => exact ih t
theorem runM_snoc (f : Frm) (rm : Opd) (reg : Int) (L : Nat) (bs : Nat → Int) (l : List UInt8) (k : Nat) (h : k < l.length) (s t : Mst) (hr : runM f rm reg L bs (l.take k) s = some t) : runM f rm reg L bs (l.take (k + 1)) s = stepM f rm reg L bs t l[k] := by
  rw [List.take_succ_eq_append_getElem h, runM_append, hr]
  show (stepM f rm reg L bs t l[k]).bind (runM f rm reg L bs []) = _
  cases stepM f rm reg L bs t l[k] <;> rfl
theorem runM_none (f : Frm) (rm : Opd) (reg : Int) (L : Nat) (bs : Nat → Int) (l : List UInt8) (k : Nat) (h : k < l.length) (s t : Mst) (hr : runM f rm reg L bs (l.take k) s = some t) (hn : stepM f rm reg L bs t l[k] = none) : runM f rm reg L bs l s = none := by
  have h1 := runM_snoc f rm reg L bs l k h s t hr
  rw [hn] at h1
  have : l = l.take (k + 1) ++ l.drop (k + 1) := (List.take_append_drop _ _).symm
  rw [this, runM_append, h1]
  rfl
def madeF (i : Ins) (f : Frm) (rm : Opd) (reg : Int) (L : Nat) (bs : Nat → Int) (k : Nat) : Ins × Int :=
  match runM f rm reg L bs f.how ⟨[], i.c, k⟩ with
  | none => (zeroI, 21)
  | some s => ({ i with a := s.l.getD 0 i.a, b := s.l.getD 1 i.b, c := s.c, len := s.at_ }, 0)
def insR (x : Ins × Int) : Value := .tuple #[insV x.1, .int .i64 x.2]
end
section
open Go.RowKit
theorem set_top (w : World) (o o' : Obj) : ({ (w.alloc o) with heap := (w.alloc o).heap.setIfInBounds w.heap.size o' } : World) = w.alloc o' := by
  have h : (w.heap.push o).setIfInBounds w.heap.size o' = w.heap.push o' := by
    apply Array.ext_getElem?
    intro i
    simp only [Array.getElem?_setIfInBounds, Array.getElem?_push, Array.size_push]
    by_cases e : w.heap.size = i
    · subst e; simp
    · rw [if_neg e, if_neg (fun h => e h.symm), if_neg (fun h => e h.symm)]
  show ({ w with heap := (w.heap.push o).setIfInBounds w.heap.size o' } : World) = { w with heap := w.heap.push o' }
  rw [h]
theorem litmap_put {P : Program} (w : World) (B : Nat) (hB : B = w.heap.size) (mty kt et : TypeId) (k : IntKind) (es : Array MapEntry) (clock : Nat) (key : Int) (val : Value) (hm : P.underlying mty = some (.map kt et)) (hk : P.underlying kt = some (.int k)) (hf : Instr.findNow (.int k) (.int k key) es.toList 0 = some none) :
    (Instr.mapUpdate mty (.map (some B)) (.int k key) val).run P (w.alloc (.map es clock)) = .ok () (w.alloc (.map (es.push { key := .int k key, val := val, born := clock }) (clock + 1))) := by
  subst hB
  have hb : (w.alloc (.map es clock)).heap[w.heap.size]? = some (.map es clock) := by show (w.heap.push _)[w.heap.size]? = _; simp
  have hc : (Instr.checkKey false 10000 kt (.int k key)).run P (w.alloc (.map es clock)) = .ok () (w.alloc (.map es clock)) := MapKept.run_checkKey (k := .int k key) hk (by simp [MapKept.IsKey]) false 9999
  simp [Instr.mapUpdate, run_underlying hm, MapKept.run_getObj_map hb, hc, MapKept.run_findKey hk hf, MapKept.run_setObj_map _ hb, Result.andThen]
  exact set_top w _ _
theorem litmap_get {P : Program} (w : World) (B : Nat) (hB : B = w.heap.size) (mty kt et : TypeId) (k : IntKind) (es : Array MapEntry) (clock : Nat) (key : Int) (val : Value) (i : Nat) (hm : P.underlying mty = some (.map kt et)) (hk : P.underlying kt = some (.int k)) (hf : Instr.findNow (.int k) (.int k key) es.toList 0 = some (some (i, val))) :
    (Instr.lookup mty (.map (some B)) (.int k key) false).run P (w.alloc (.map es clock)) = .ok val (w.alloc (.map es clock)) := by
  subst hB
  have hb : (w.alloc (.map es clock)).heap[w.heap.size]? = some (.map es clock) := by show (w.heap.push _)[w.heap.size]? = _; simp
  have hc : ∀ e, (Instr.checkKey e 10000 kt (.int k key)).run P (w.alloc (.map es clock)) = .ok () (w.alloc (.map es clock)) := fun e => MapKept.run_checkKey (k := .int k key) hk (by simp [MapKept.IsKey]) e 9999
  simp [Instr.lookup, run_underlying hm, MapKept.run_getObj_map hb, hc, MapKept.run_findKey hk hf, Result.andThen]
end
section
open Go.ChangeShapes Go.WideShapes Go.ChangeAt Go.RowKit
theorem info_ins : (Tryd.prog.info? 32).map (·.size) = some 18 := by kernel_rfl
def insL (i : Ins) : List Value := [.int .i64 i.op, .int .i64 i.cond, .int .i64 i.size, .int .i64 i.a.kind, .int .i64 i.a.reg, .int .i64 i.a.base, .int .i64 i.a.index, .int .i64 i.a.scale, .int .u32 i.a.disp, .int .i64 i.b.kind, .int .i64 i.b.reg, .int .i64 i.b.base, .int .i64 i.b.index, .int .i64 i.b.scale, .int .u32 i.b.disp, .int .u32 i.c, .bool i.rep, .int .i64 i.len]
def zeroA : Array Value := #[.int .i64 0, .int .i64 0, .int .i64 0, .int .i64 0, .int .i64 0, .int .i64 0, .int .i64 0, .int .i64 0, .int .u32 0, .int .i64 0, .int .i64 0, .int .i64 0, .int .i64 0, .int .i64 0, .int .u32 0, .int .u32 0, .bool false, .int .i64 0]
theorem ins_one (i : Ins) : (insL i).toArray.all (·.oneCell') = true := by simp [insL, Value.oneCell']
theorem store_ins {ops : Array Oper} {rest : List Oper} {op : Oper} {a : Act} {w : World} {Q : Exit → Act → World → Prop} (hgd : op.guard = none) (x y : Operand) (ho : op.op = .store 32 x y)
    (R : Nat) (hx : a.eval x = .pointer (some ⟨R, 0, none⟩)) (q : Ins) (hy : a.eval y = insV q) (ht : w.there R 0 18)
    (hK : ∀ Y, Y = w.setCells R 0 (insL q) → (loadVar 32 ⟨R, 0, none⟩).run Tryd.prog Y = .ok (insV q) Y → wpList Tryd.prog ops Q rest (a.put op.dst undef) Y) : wpList Tryd.prog ops Q (op :: rest) a w :=
  store_row hgd _ x y ho R hx (insL q) hy _ Tryd.underlying32 rfl info_ins (ins_one q) ht hK
end
section
open Go.ChangeShapes Go.WideShapes Go.ChangeAt Go.RowKit
def cutA (ad : Addr) (cap s : Nat) : Addr := if cap = s then ad else ad.add s
theorem slice_tail (ad : Addr) (L cap k : Nat) (ks : Int) (e1 : ks = k) (h1 : k ≤ L) (w : World) :
    (Instr.sliceAt 35 (.slice (some ad) L cap) (some (.int .i64 ks)) none none).run Tryd.prog w = .ok (.slice (some (cutA ad cap k)) (L - k) (cap - k)) w := by
  have hE : Tryd.prog.elem 35 = 5 := by kernel_rfl
  have hz : (sizeOf (Tryd.prog.elem 35)).run Tryd.prog w = .ok 1 w := by kernel_rfl
  have hu : Tryd.prog.underlying 35 = some (.slice (Tryd.prog.elem 35)) := by rw [hE]; exact Tryd.underlying35
  subst e1
  rw [run_sliceAt_slice w _ _ _ _ _ hu, run_slice_l w _ _ _ _ hu .i64 (k : Int) (by omega) (by omega), hz]
  simp only [Result.andThen, sliced, Option.map_some, Nat.mul_one, Int.toNat_natCast]
  unfold cutA
  by_cases hk : cap = k
  · rw [if_pos hk, if_pos (by omega)]
  · rw [if_neg hk, if_neg (by omega)]
theorem slc_tail {w : World} {ad : Addr} {M cap : Nat} {bs : Nat → Int} (hc : ∀ i, i < M → w.cell? (ad.add i) = some (.int .u8 (bs i))) (hl : M ≤ cap) (k : Nat) (hk : k ≤ M) : Slc .u8 w (.slice (some (cutA ad cap k)) (M - k) (cap - k)) (M - k) (fun i => bs (k + i)) := by
  refine .inr ⟨_, _, rfl, by omega, fun i hi => ?_⟩
  rw [← hc (k + i) (by omega)]
  unfold cutA
  rw [if_neg (by omega)]
  congr 1
  unfold Addr.add
  by_cases h0 : k = 0
  · subst h0; simp
  · by_cases hi0 : i = 0
    · subst hi0; simp [h0]
    · rw [if_neg h0, if_neg hi0, if_neg (by omega)]; simp [Nat.add_assoc]
theorem range_but {F : Nat → Prop} {w w' : World} {R o : Nat} {cs : List Value} (h : But F w w') (hn : ¬ F R) (hr : w.rangeAt R o cs) : w'.rangeAt R o cs := fun j v hv => h.cell (hr j v hv) hn
theorem range_alloc {w : World} {R o : Nat} {cs : List Value} (x : Obj) (hr : w.rangeAt R o cs) (hR : R < w.heap.size) : (w.alloc x).rangeAt R o cs := fun j v hv => (World.cell?_alloc_lt w x ⟨R, o + j, none⟩ hR).trans (hr j v hv)
theorem heap_top0 (w : World) (o : Obj) (B : Nat) (h : B = w.heap.size) : (w.alloc o).heap[B]? = some o := by subst h; show (w.heap.push o)[w.heap.size]? = _; simp
theorem opd_one (o : Opd) : (opL' o).toArray.all (·.oneCell') = true := by simp [opL', Value.oneCell']
theorem store_mid {P : Program} {ops : Array Oper} {rest : List Oper} {op : Oper} {a : Act} {w : World} {Q : Exit → Act → World → Prop} (hgd : op.guard = none) (T : TypeId) (x y : Operand) (ho : op.op = .store T x y)
    (R o : Nat) (hx : a.eval x = .pointer (some ⟨R, o, none⟩)) (C : List Value) (hy : a.eval y = .agg C.toArray) (hi : (P.info? T).map (·.size) = some C.length) (h1 : C.toArray.all (·.oneCell') = true) (ht : w.there R o C.length)
    (hK : ∀ Y, Y = w.setCells R o C → wpList P ops Q rest (a.put op.dst undef) Y) : wpList P ops Q (op :: rest) a w := by
  refine wpList_store_mid hgd T x y ho R o C.toArray hx hy (by simpa using ht) (by simpa using hi) h1 ?_
  exact hK _ rfl
end
end Go.Proofs.YtgihiddiceinhaaDoor
