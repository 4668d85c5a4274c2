/- Pages of memory: a map of pointers to blocks of 4096 bytes, and what it is good for. -/
import Derived.Test.YtkmoefgoolhegaaRef6b
import Derived.Test.YtkmoefgoolhegaaSlc
import Derived.Maps.OwnSet
import Derived.Laws.IdiomCopy
namespace Go.Proofs.Ytkmoefgoolhegaa
open Go.ChangeShapes Go.WideShapes Go.ChangeAt Go.RowKit Go.Maps Go.Deep

/-- how an element of the map reads: a pointer to a whole block, or none -/
def ptrElem (v : Value) : Option (DataW Unit × List MemPlace) :=
  match v with
  | .pointer none => some (.lit (.int .i64 (-1)), [])
  | .pointer (some ⟨k, 0, none⟩) => some (.lit (.int .i64 (k : Int)), [])
  | _ => none
def ptrOf : Option Nat → Value
  | none => .pointer none
  | some k => .pointer (some ⟨k, 0, none⟩)
def codeOf : Option Nat → Int
  | none => -1
  | some k => (k : Int)
theorem ptrElem_of (o : Option Nat) : ptrElem (ptrOf o) = some (.lit (.int .i64 (codeOf o)), []) := by cases o <;> rfl
theorem ptrElem_inv {v : Value} {o : Option Nat} {ps : List MemPlace} (h : ptrElem v = some (.lit (.int .i64 (codeOf o)), ps)) : v = ptrOf o := by
  unfold ptrElem at h
  split at h
  · cases o with
    | none => rfl
    | some k => injection h with h; injection h with h _; injection h with h; injection h with _ h; simp [codeOf] at h
  · cases o with
    | none => injection h with h; injection h with h _; injection h with h; injection h with _ h; simp [codeOf] at h
    | some k => injection h with h; injection h with h _; injection h with h; injection h with _ h; simp only [codeOf] at h; rw [Int.ofNat_inj.1 h]; rfl
  · cases h
theorem zero_page (w : World) : (zeroValue 52).run Try.prog w = .ok (.pointer none) w := by kernel_rfl

/-- how many of the first x pages there are -/
def cnt (pt : Int → Option Nat) : Nat → Nat
  | 0 => 0
  | x + 1 => cnt pt x + if (pt (((x : Nat) : Int) * 4096)).isSome then 1 else 0
theorem cnt_le (pt : Int → Option Nat) : ∀ x, cnt pt x ≤ x
  | 0 => Nat.le_refl _
  | x + 1 => by have := cnt_le pt x; unfold cnt; split <;> omega
def setPt (pt : Int → Option Nat) (q : Int) (k : Nat) : Int → Option Nat := fun x => if x = q then some k else pt x
theorem cnt_set (pt : Int → Option Nat) (y k : Nat) (h0 : pt ((y : Int) * 4096) = none) : ∀ x, cnt (setPt pt ((y : Int) * 4096) k) x = cnt pt x + if y < x then 1 else 0
  | 0 => by simp [cnt]
  | x + 1 => by
    have ih := cnt_set pt y k h0 x
    unfold cnt
    rw [ih]
    by_cases hxy : x = y
    · subst hxy
      rw [h0]
      simp [setPt]
    · have hne : ¬ (((x : Nat) : Int) * 4096 = (y : Int) * 4096) := by omega
      have e : setPt pt ((y : Int) * 4096) k (((x : Nat) : Int) * 4096) = pt (((x : Nat) : Int) * 4096) := by unfold setPt; rw [if_neg hne]
      rw [e]
      by_cases hlt : y < x
      · simp [hlt, show y < x + 1 by omega]; omega
      · simp [hlt, show ¬ y < x + 1 by omega]

/-- The memory at block p: its map lies at block B and reads as D; page q lies at block pt q; place a has byte g a. -/
structure PAt (w : World) (p : Nat) (F : Nat → Prop) (g : Int → Int) (pg : Int → Bool) (pt : Int → Option Nat) (B : Nat) (D : DataW Unit) : Prop where
  cell : w.cell? ⟨p, 0, none⟩ = some (.map (some B))
  map : w.ownsMap Try.prog 22 ptrElem B (Maps.size D) D
  at_ : ∀ q, 0 ≤ q → q < 4294967296 → D.atKey (.int .u32 q) (.lit (.int .i64 (-1))) = .lit (.int .i64 (codeOf (pt q)))
  has : ∀ q, Maps.has D (.int .u32 q) = (pt q).isSome
  size : ∃ N, N ≤ 1048576 ∧ Maps.size D ≤ cnt pt N ∧ 1048576 ≤ N
  page : ∀ q k, pt q = some k → (q % 4096 = 0 ∧ 0 ≤ q ∧ q < 4294967296) ∧ F k ∧ k ≠ p ∧ k ≠ B ∧ w.rowIs k 65 4096 (fun i => .int .u8 (g (q + i)))
  apart : ∀ q q' k, pt q = some k → pt q' = some k → q = q'
  none_ : ∀ a, pt (a / 4096 * 4096) = none → g a = 0
  pgs : ∀ q, pg q = (pt q).isSome
  byte : ∀ a, 0 ≤ g a ∧ g a < 256
  self : F p
  selfB : F B
  ne : p ≠ B
  lt : ∀ k, F k → k < w.heap.size
theorem PAt.but {F G : Nat → Prop} {w w' : World} {p B : Nat} {g : Int → Int} {pg : Int → Bool} {pt : Int → Option Nat} {D : DataW Unit} (h : PAt w p F g pg pt B D) (hb : But G w w') (hn : ∀ k, F k → ¬ G k) : PAt w' p F g pg pt B D :=
  ⟨hb.cell h.cell (hn _ h.self), hb.owns h.map (hn _ h.selfB), h.at_, h.has, h.size, fun q k hk => by
    obtain ⟨h1, h2, h3, h4, h5⟩ := h.page q k hk
    exact ⟨h1, h2, h3, h4, h5.of_block (hb.block k (h.lt k h2) (hn k h2))⟩, h.apart, h.none_, h.pgs, h.byte, h.self, h.selfB, h.ne, fun k hk => Nat.lt_of_lt_of_le (h.lt k hk) hb.size⟩
theorem PAt.below {F : Nat → Prop} {w w' : World} {p B : Nat} {g : Int → Int} {pg : Int → Bool} {pt : Int → Option Nat} {D : DataW Unit} (h : PAt w p F g pg pt B D) (hb : Below w.heap.size w w') : PAt w' p F g pg pt B D :=
  h.but (G := fun _ => False) (But.of_below hb) (fun _ _ h => h)
theorem key_page (q : Int) (h0 : 0 ≤ q) (h1 : q < 4294967296) : keyOf Try.prog 22 (.int .u32 q) = some (.int .u32 q) := keyOf_int_mk Try.underlying22 (wf_u32 q h0 h1)
/-- What the map has of a page. -/
theorem PAt.get {F : Nat → Prop} {w : World} {p B : Nat} {g : Int → Int} {pg : Int → Bool} {pt : Int → Option Nat} {D : DataW Unit} (h : PAt w p F g pg pt B D) (q : Int) (h0 : 0 ≤ q) (h1 : q < 4294967296) :
    (Instr.lookup 47 (.map (some B)) (.int .u32 q) false).run Try.prog w = .ok (ptrOf (pt q)) w := by
  obtain ⟨v, ps, hrun, hv⟩ := h.map.lookup key_u32 Try.underlying47 (zero_page w) (ptrElem_of none) (key_page q h0 h1)
  rw [show (DataW.lit (.int .i64 (codeOf none)) : DataW Unit) = .lit (.int .i64 (-1)) from rfl, h.at_ q h0 h1] at hv
  rw [hrun, ptrElem_inv hv]
/-- A byte is stored into its page. -/
theorem PAt.setByte {F : Nat → Prop} {w : World} {p B : Nat} {g : Int → Int} {pg : Int → Bool} {pt : Int → Option Nat} {D : DataW Unit} (h : PAt w p F g pg pt B D) {q : Int} {k : Nat} (hk : pt q = some k) (i : Nat) (hi : i < 4096) (v : Int) (v0 : 0 ≤ v) (v1 : v < 256) :
    PAt (w.setCell ⟨k, i, none⟩ (.int .u8 v)) p F (setG g (q + i) v) pg pt B D := by
  obtain ⟨hq, hF, hp, hB, hrow⟩ := h.page q k hk
  have hbut : But (· = k) w (w.setCell ⟨k, i, none⟩ (.int .u8 v)) := (But.refl (· = k) w).setCell (a := ⟨k, i, none⟩) (fun _ => rfl) _
  refine ⟨hbut.cell h.cell (fun e => hp e.symm), hbut.owns h.map (fun e => hB e.symm), h.at_, h.has, h.size, fun q' k' hk' => ?_, h.apart, fun a ha => ?_, h.pgs, fun a => ?_, h.self, h.selfB, h.ne, fun j hj => by simpa using h.lt j hj⟩
  · obtain ⟨hq', hF', hp', hB', hrow'⟩ := h.page q' k' hk'
    refine ⟨hq', hF', hp', hB', ?_⟩
    by_cases e : k' = k
    · subst e
      obtain rfl := h.apart _ _ _ hk hk'
      refine (hrow.set i _).congr (fun j hj => ?_)
      unfold setG
      by_cases hji : j = i
      · subst hji; simp
      · rw [if_neg hji, if_neg (by omega)]
    · refine (hrow'.setOther (by exact e) _).congr (fun j hj => ?_)
      unfold setG
      rw [if_neg]
      intro e2
      have : q' = q := by omega
      subst this
      rw [hk] at hk'
      injection hk' with hk'
      exact e hk'.symm
  · unfold setG
    rw [if_neg]
    · exact h.none_ a ha
    · intro e2
      rw [e2, show (q + i) / 4096 * 4096 = q by omega, hk] at ha
      cases ha
  · unfold setG
    split
    · exact ⟨v0, v1⟩
    · exact h.byte a

def isZ (v : Value) : Bool :=
  match v with
  | .int .u8 0 => true
  | _ => false
theorem isZ_eq {v : Value} (h : isZ v = true) : v = .int .u8 0 := by
  unfold isZ at h
  split at h
  · rfl
  · cases h
set_option maxRecDepth 100000 in
/-- the noughts of a new page -/
theorem pageZ : ∃ z : Array Value, (∀ w, (zeroValue 65).run Try.prog w = .ok (.agg z) w) ∧ (z.toList.length == 4096) = true ∧ (z.toList.all isZ) = true := by
  refine ⟨match (Try.prog.info? 65).bind (·.zero) with | some (.agg c) => c | _ => #[], fun w => ?_, ?_, ?_⟩
  · kernel_rfl
  · kernel_rfl
  · kernel_rfl
theorem alloc_page : ∃ z : Array Value, (∀ w, (zeroValue 65).run Try.prog w = .ok (.agg z) w) ∧
    ∀ w : World, (w.alloc (.cells z 65)).rowIs w.heap.size 65 4096 (fun _ => .int .u8 0) := by
  obtain ⟨z, hz, hs, ha⟩ := pageZ
  have hs2 : z.size = 4096 := by simpa using hs
  refine ⟨z, hz, fun w => ?_⟩
  · have := World.rowIs_alloc w z 65 (fun _ => .int .u8 0) (fun i hi => by
      rw [Array.getElem?_eq_getElem hi]
      congr 1
      exact isZ_eq (List.all_eq_true.1 ha _ (by simp)))
    rwa [hs2] at this
end Go.Proofs.Ytkmoefgoolhegaa
