import Derived.WalkKit
import Derived.Maps.Own
import Derived.Maps.OwnOps
import Derived.Maps.Views
import Derived.Test.YtgihiddiceinhaaDoorRows
import Derived.ProofKit
import Derived.OpenShut
import Derived.BigRegion
import Derived.Lib.Hide
import Derived.WalkLawsBesides
import Derived.Deep.OwnRows
import Derived.StillTailTactics
import Derived.Deep.DeepCutAuto
import Derived.ChangeSame
import Derived.ChangeArms
import Derived.Carry
import Derived.ChangeSlices
import Derived.Laws.IdiomStrings
import Derived.Laws.BytesString
namespace Go.Proofs.YtgihiddiceinhaaDoor
section
structure Opd where
  kind : Int
  reg : Int
  base : Int
  index : Int
  scale : Int
  disp : Int
  deriving DecidableEq
def sx9 (c : Int) : Int := if c < 128 then c else c + 4294967040
def four9 (a b c d : Int) : Int := a + b * 256 + c * 65536 + d * 16777216
def scale9 (k : Int) : Int := if k = 0 then 1 else if k = 1 then 2 else if k = 2 then 4 else 8
def sibI (s : Int) : Int := if s / 8 % 8 = 4 then -1 else s / 8 % 8
def sibS (s : Int) : Int := if s / 8 % 8 = 4 then 1 else scale9 (s / 64)
def more9 (md base : Int) : Nat := if md = 0 then (if base = 5 then 4 else 0) else if md = 1 then 1 else 4
def disp9 (k : Nat) (bs : Nat → Int) (n : Nat) : Int := if k = 1 then sx9 (bs n) else if k = 4 then four9 (bs n) (bs (n + 1)) (bs (n + 2)) (bs (n + 3)) else 0
def base9 (md base : Int) : Int := if md = 0 ∧ base = 5 then -1 else base
def rmF (L : Nat) (bs : Nat → Int) : Option (Opd × Int × Nat) :=
  if L = 0 then none
  else if bs 0 / 64 = 3 then some (⟨1, bs 0 % 8, -1, -1, 1, 0⟩, bs 0 / 8 % 8, 1)
  else if bs 0 % 8 = 4 then
    if L < 2 then none
    else if L < 2 + more9 (bs 0 / 64) (bs 1 % 8) then none
    else some (⟨3, 0, base9 (bs 0 / 64) (bs 1 % 8), sibI (bs 1), sibS (bs 1), disp9 (more9 (bs 0 / 64) (bs 1 % 8)) bs 2⟩, bs 0 / 8 % 8, 2 + more9 (bs 0 / 64) (bs 1 % 8))
  else if L < 1 + more9 (bs 0 / 64) (bs 0 % 8) then none
  else some (⟨3, 0, base9 (bs 0 / 64) (bs 0 % 8), -1, 1, disp9 (more9 (bs 0 / 64) (bs 0 % 8)) bs 1⟩, bs 0 / 8 % 8, 1 + more9 (bs 0 / 64) (bs 0 % 8))
def memOk (o : Opd) : Prop := o.kind = 3 ∧ o.reg = 0 ∧ -1 ≤ o.base ∧ o.base ≤ 7 ∧ -1 ≤ o.index ∧ o.index ≤ 7 ∧ o.index ≠ 4 ∧ (o.scale = 1 ∨ o.scale = 2 ∨ o.scale = 4 ∨ o.scale = 8) ∧ (o.index ≠ -1 ∨ o.scale = 1)
instance (o : Opd) : Decidable (memOk o) := by unfold memOk; infer_instance
def regOk (o : Opd) : Prop := 0 ≤ o.reg ∧ o.reg ≤ 7 ∧ o = ⟨1, o.reg, -1, -1, 1, 0⟩
instance (o : Opd) : Decidable (regOk o) := by unfold regOk; infer_instance
end
section
structure Frm where
  op : Int
  cond : Int
  size : Int
  how : List UInt8
  c : Int
  deriving DecidableEq
def nilF : Frm := ⟨0, 0, 0, [], 0⟩
def isF (c op size : Int) (how : List UInt8) : Frm × Bool × Bool := (⟨op, 0, size, how, c % 8⟩, op != 0, false)
def grpF (l : List Int) (reg : Int) : Int := l.getD reg.toNat 0
def byF (c reg : Int) (l : List Int) (size : Int) (how : List UInt8) : Frm × Bool × Bool := if reg < 0 then (nilF, false, true) else isF c (grpF l reg) size how
def alus : List Int := [1, 2, 3, 4, 5, 6, 7, 8]
def shfs : List Int := [26, 27, 0, 0, 28, 29, 0, 30]
def firstF (c reg : Int) (m3 : Bool) : Frm × Bool × Bool :=
  let s := 1 + 3 * (c % 2)
  if c < 64 ∧ c % 8 < 6 then isF c (grpF alus (c / 8)) ([1, 4, 1, 4, 1, 4].getD (c % 8).toNat 0) ([[69, 71], [69, 71], [71, 69], [71, 69], [97, 73], [97, 73]].getD (c % 8).toNat [])
  else if 64 ≤ c ∧ c < 72 then isF c 16 4 [114]
  else if 72 ≤ c ∧ c < 80 then isF c 17 4 [114]
  else if 80 ≤ c ∧ c < 88 then isF c 23 4 [114]
  else if 88 ≤ c ∧ c < 96 then isF c 24 4 [114]
  else if 112 ≤ c ∧ c < 128 then (⟨31, c % 16, 0, [98], c % 8⟩, true, false)
  else if 145 ≤ c ∧ c < 152 then isF c 22 4 [97, 114]
  else if 176 ≤ c ∧ c < 184 then isF c 18 1 [114, 73]
  else if 184 ≤ c ∧ c < 192 then isF c 18 4 [114, 73]
  else if c = 0x68 then isF c 23 4 [73]
  else if c = 0x6a then isF c 23 4 [98]
  else if c = 0x69 then (⟨25, 1, 4, [71, 69, 76], c % 8⟩, true, false)
  else if c = 0x6b then (⟨25, 1, 4, [71, 69, 66], c % 8⟩, true, false)
  else if c = 0x80 then byF c reg alus 1 [69, 73]
  else if c = 0x81 then byF c reg alus 4 [69, 73]
  else if c = 0x83 then byF c reg alus 4 [69, 98]
  else if c = 0x84 ∨ c = 0x85 then isF c 9 s [69, 71]
  else if c = 0x86 ∨ c = 0x87 then isF c 22 s [69, 71]
  else if c = 0x88 ∨ c = 0x89 then isF c 18 s [69, 71]
  else if c = 0x8a ∨ c = 0x8b then isF c 18 s [71, 69]
  else if c = 0x8d then (if reg < 0 then (nilF, false, true) else (⟨21, 0, 4, [71, 69], c % 8⟩, !m3, false))
  else if c = 0x8f then byF c reg [24] 4 [69]
  else if c = 0x90 then isF c 50 0 []
  else if c = 0x98 then isF c 37 0 []
  else if c = 0x99 then isF c 38 0 []
  else if c = 0xa0 ∨ c = 0xa1 then isF c 18 s [97, 109]
  else if c = 0xa2 ∨ c = 0xa3 then isF c 18 s [109, 97]
  else if c = 0xa4 ∨ c = 0xa5 then isF c 46 s []
  else if c = 0xa8 ∨ c = 0xa9 then isF c 9 s [97, 73]
  else if c = 0xaa ∨ c = 0xab then isF c 47 s []
  else if c = 0xac ∨ c = 0xad then isF c 48 s []
  else if c = 0xc1 then byF c reg shfs 4 [69, 98]
  else if c = 0xd1 then byF c reg shfs 4 [69, 49]
  else if c = 0xd3 then byF c reg shfs 4 [69, 99]
  else if c = 0xc2 then isF c 34 0 [119]
  else if c = 0xc3 then isF c 34 0 []
  else if c = 0xc6 ∨ c = 0xc7 then byF c reg [18] s [69, 73]
  else if c = 0xc9 then isF c 49 0 []
  else if c = 0xcc then isF c 40 0 []
  else if c = 0xf4 then isF c 39 0 []
  else if c = 0xe8 then isF c 33 0 [105]
  else if c = 0xe9 then isF c 32 0 [105]
  else if c = 0xeb then isF c 32 0 [98]
  else if c = 0xf5 then isF c 43 0 []
  else if c = 0xf8 then isF c 41 0 []
  else if c = 0xf9 then isF c 42 0 []
  else if c = 0xfc then isF c 44 0 []
  else if c = 0xfd then isF c 45 0 []
  else if c = 0xf6 then (if reg = 0 then isF c 9 1 [69, 73] else byF c reg [0, 0, 10, 11] 1 [69])
  else if c = 0xf7 then (if reg = 0 then isF c 9 4 [69, 73] else byF c reg [0, 0, 10, 11, 12, 13, 14, 15] 4 [69])
  else if c = 0xfe then byF c reg [16, 17] 1 [69]
  else if c = 0xff then byF c reg [16, 17, 33, 0, 32, 0, 23] 4 [69]
  else (nilF, false, false)
end
section
open Go.RowKit
def wid (n : Int) : Nat := if n < 2 then 8 else if n < 4 then 16 else 32
def bt (v : Int) (k : Nat) : Bool := decide (v / 2 ^ k % 2 = 1)
def hi (v n : Int) : Bool := bt v (wid n - 1)
def par (v : Int) : Bool := decide ((v % 2 + v / 2 % 2 + v / 4 % 2 + v / 8 % 2 + v / 16 % 2 + v / 32 % 2 + v / 64 % 2 + v / 128 % 2) % 2 = 0)
/-! bits of a number of 32 bits -/
/-! what the program's own sums come to -/
theorem bcell {W w1 : World} (hb : Below W.heap.size W w1) : (∀ b o, b < W.heap.size → w1.cell? ⟨b, o, none⟩ = W.cell? ⟨b, o, none⟩) ∧ (∀ b o, b < W.heap.size → w1.frozen? ⟨b, o, none⟩ = W.frozen? ⟨b, o, none⟩) :=
  ⟨fun b o h => hb.cell (p := ⟨b, o, none⟩) h, fun b o h => hb.frozen (p := ⟨b, o, none⟩) h⟩
/-! what the document's own sums come to -/
theorem below_last {w W : World} (h : Below w.heap.size w W) (o : Obj) : Below w.heap.size w (W.alloc o) := h.alloc h.size o
/-! what lies in a block stays there, call by call -/
theorem cell_lt {W : World} {p : Addr} {x : Value} (h : W.cell? p = some x) : p.block < W.heap.size := by
  unfold World.cell? at h
  rcases Nat.lt_or_ge p.block W.heap.size with hl | hl
  · exact hl
  · rw [Array.getElem?_eq_none hl] at h
    simp at h
theorem cell_call {W W1 : World} {p : Addr} {x : Value} (hb : Below W.heap.size W W1) (h : W.cell? p = some x) : W1.cell? p = some x := by
  rw [hb.cell (cell_lt h), h]
theorem isSome_setCell (w : World) (a b : Addr) (v : Value) : ((w.setCell a v).cell? b).isSome = (w.cell? b).isSome := by
  by_cases h : a = b
  · subst h
    cases hc : w.cell? a with
    | some u => rw [World.cell?_setCell_same w a v hc]; rfl
    | none =>
      cases hd : (w.setCell a v).cell? a with
      | none => rfl
      | some u =>
        exfalso
        revert hc hd
        simp only [World.setCell, World.cell?, Array.getElem?_modify, ↓reduceIte]
        cases w.heap[a.block]? with
        | none => simp
        | some x =>
          cases x <;> simp
          cases hs : a.spot <;> simp
          intro hle; rw [Array.getElem?_eq_none (by simpa using hle)]; simp
  · rw [World.cell?_setCell_other w a b v h]
end
section
open Go.RowKit Go.Maps
structure But (F : Nat → Prop) (w w' : World) : Prop where
  os : w'.os = w.os
  tape : w'.tape = w.tape
  output : w'.output = w.output
  size : w.heap.size ≤ w'.heap.size
  block : ∀ k, k < w.heap.size → ¬ F k → w'.heap[k]? = w.heap[k]?
theorem But.refl (F : Nat → Prop) (w : World) : But F w w := ⟨rfl, rfl, rfl, Nat.le_refl _, fun _ _ _ => rfl⟩
theorem But.trans {F G : Nat → Prop} {a b c : World} (h : But F a b) (k : But G b c) (hG : ∀ i, i < a.heap.size → G i → F i) : But F a c :=
  ⟨k.os.trans h.os, k.tape.trans h.tape, k.output.trans h.output, Nat.le_trans h.size k.size, fun i hi hF => (k.block i (Nat.lt_of_lt_of_le hi h.size) (fun hg => hF (hG i hi hg))).trans (h.block i hi hF)⟩
theorem But.mono {F G : Nat → Prop} {a b : World} (h : But F a b) (hG : ∀ i, i < a.heap.size → F i → G i) : But G a b :=
  ⟨h.os, h.tape, h.output, h.size, fun i hi hn => h.block i hi (fun hf => hn (hG i hi hf))⟩
theorem But.of_below {F : Nat → Prop} {w w' : World} (h : Below w.heap.size w w') : But F w w' := ⟨h.os, h.tape, h.output, h.size, fun k hk _ => h.block k hk⟩
theorem But.alloc {F : Nat → Prop} {w w' : World} (h : But F w w') (o : Obj) : But F w (w'.alloc o) :=
  h.trans (But.of_below (F := F) ((Below.refl _ _).alloc (Nat.le_refl _) _)) (fun _ _ hf => hf)
theorem But.drew {F : Nat → Prop} {w w' : World} (h : But F w w') : But F w w'.drew := ⟨h.os, h.tape, h.output, h.size, h.block⟩
theorem But.setCell {F : Nat → Prop} {w w' : World} (h : But F w w') {a : Addr} (ha : a.block < w.heap.size → F a.block) (v : Value) : But F w (w'.setCell a v) := by
  refine ⟨h.os, h.tape, h.output, by simpa using h.size, fun k hk hn => ?_⟩
  have hne : a.block ≠ k := fun e => hn (e ▸ ha (e ▸ hk))
  rw [← h.block k hk hn]
  simp [World.setCell, Array.getElem?_modify, hne]
theorem But.cell {F : Nat → Prop} {w w' : World} (h : But F w w') {p : Addr} {x : Value} (hc : w.cell? p = some x) (hn : ¬ F p.block) : w'.cell? p = some x := by
  rw [World.cell?_of_block (h.block p.block (cell_lt hc) hn), hc]
theorem But.frozen {F : Nat → Prop} {w w' : World} (h : But F w w') {p : Addr} (hl : p.block < w.heap.size) (hn : ¬ F p.block) : w'.frozen? p = w.frozen? p :=
  World.frozen?_of_block (h.block p.block hl hn)
theorem But.below {F : Nat → Prop} {B : Nat} {a w w' : World} (h : But F w w') (hb : Below B a w) (hF : ∀ k, F k → B ≤ k) (hB : B ≤ w.heap.size) : Below B a w' :=
  ⟨h.os.trans hb.os, h.tape.trans hb.tape, h.output.trans hb.output, Nat.le_trans hb.size h.size, fun k hk => (h.block k (Nat.lt_of_lt_of_le hk hB) (fun hf => by have := hF k hf; omega)).trans (hb.block k hk)⟩
theorem But.owns {H : Type} {F : Nat → Prop} {w w' : World} {P : Program} {k : TypeId} {R : Value → Option (DataW H × List MemPlace)} {b n : Nat} {D : DataW H} (h : But F w w') (hm : w.ownsMap P k R b n D) (hn : ¬ F b) : w'.ownsMap P k R b n D := by
  have hl := hm.lt
  obtain ⟨es, clock, hb, r⟩ := hm
  exact ⟨es, clock, (h.block b hl hn).trans hb, r⟩
end
section
open Go.ChangeShapes Go.WideShapes Go.ChangeAt Go.RowKit Go.Maps Go.Deep
def RefMap (w : World) (B n : Nat) (g : Int → Int) : Prop :=
  ∃ D : DataW Unit, w.ownsMap Tryd.prog 25 (plainElem Tryd.prog 5) B n D ∧ (∀ a, 0 ≤ a → a < 4294967296 → D.atKey (.int .u32 a) (.lit (.int .u8 0)) = .lit (.int .u8 (g a))) ∧ IsMap D ∧ ∀ a, 0 ≤ g a ∧ g a < 256
theorem RefMap.but {F : Nat → Prop} {w w' : World} {B n : Nat} {g : Int → Int} (h : RefMap w B n g) (hb : But F w w') (hn : ¬ F B) : RefMap w' B n g := by
  obtain ⟨D, hm, r⟩ := h
  exact ⟨D, hb.owns hm hn, r⟩
attribute [local go_sem] isSome_setCell
end
section
open Go.ChangeShapes Go.WideShapes Go.ChangeAt Go.RowKit
section
variable {H : Type} {enc : TypeId × Value → H} {P : Program}
theorem stays_all (hl : laidOutB P = true) {W W' : World} (hb : Below W.heap.size W W') (sp : Nat → Bool) : ∀ (ts : List TypeId) (vs : List Value) (ds : List (DataW H)) (ps : List MemPlace), (ts.all fun t => P.readableRec t && decide (t < P.types.size)) = true →
    DataW.TrodAll enc P W 0 (fun _ => true) true ts vs ds ps → (∀ x ∈ ps, x.block < W.heap.size ∧ sp x.block = true) → DataW.TrodAll enc P W' 0 sp true ts vs ds ps := by
  intro ts
  induction ts with
  | nil =>
    intro vs ds ps _ h _
    obtain ⟨rfl, rfl, rfl⟩ := trodAll_nil h
    exact trodAll_mk0
  | cons t ts ih =>
    intro vs ds ps ht h hp
    obtain ⟨v, vs', d, ds', p, q, rfl, rfl, rfl, h0, h1⟩ := trodAll_cons h
    simp only [List.all_cons, Bool.and_eq_true, decide_eq_true_eq] at ht
    have h0' : DataW.Trod enc P W' 0 sp true t v d p := WideElems.Trod_stays hl ht.1.1 ht.1.2 h0 (fun x hx => hb.same (hp x (by simp [hx])).1) (fun x hx => (hp x (by simp [hx])).2)
    exact trodAll_cons_mk h0' (ih vs' ds' q (by simpa using ht.2) h1 fun x hx => hp x (by simp [hx]))
end
end
section
open Go.ChangeShapes Go.WideShapes Go.ChangeAt Go.RowKit
def Slc (k : IntKind) (w : World) (v : Value) (L : Nat) (bs : Nat → Int) : Prop :=
  (v = .slice none 0 0 ∧ L = 0) ∨ ∃ ad cap, v = .slice (some ad) L cap ∧ L ≤ cap ∧ ∀ i, i < L → w.cell? (ad.add i) = some (.int k (bs i))
theorem add_block (a : Addr) (i : Nat) : (a.add i).block = a.block := by unfold Addr.add; split <;> rfl
theorem Slc.but {k : IntKind} {F : Nat → Prop} {w w' : World} {v : Value} {L : Nat} {bs : Nat → Int} (h : Slc k w v L bs) (hb : But F w w') (hn : 0 < L → ∀ j, v.ownBlock = some j → ¬ F j) : Slc k w' v L bs := by
  rcases h with h | ⟨ad, cap, rfl, hl, hc⟩
  · exact .inl h
  · refine .inr ⟨ad, cap, rfl, hl, fun i hi => hb.cell (hc i hi) ?_⟩
    rw [add_block]
    exact hn (by omega) _ rfl
theorem Slc.below {k : IntKind} {w w' : World} {v : Value} {L : Nat} {bs : Nat → Int} (h : Slc k w v L bs) (hb : Below w.heap.size w w') : Slc k w' v L bs :=
  h.but (F := fun _ => False) (But.of_below hb) (fun _ _ _ h => h)
theorem Slc.len {k : IntKind} {w : World} {v : Value} {L : Nat} {bs : Nat → Int} (h : Slc k w v L bs) : ∃ a cap, v = .slice a L cap := by
  rcases h with ⟨rfl, rfl⟩ | ⟨ad, cap, rfl, hl, hc⟩
  · exact ⟨_, _, rfl⟩
  · exact ⟨_, _, rfl⟩
theorem Slc.congr {k : IntKind} {w : World} {v : Value} {L : Nat} {bs cs : Nat → Int} (h : Slc k w v L bs) (e : ∀ i, i < L → bs i = cs i) : Slc k w v L cs := by
  rcases h with h | ⟨ad, cap, rfl, hl, hc⟩
  · exact .inl h
  · exact .inr ⟨ad, cap, rfl, hl, fun i hi => by rw [hc i hi, e i hi]⟩
end
end Go.Proofs.YtgihiddiceinhaaDoor
