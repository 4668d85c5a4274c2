/- Which instruction bytes are: operands, one letter at a time. -/
import Derived.Test.YtplghmkicdpbfaaRef10v
namespace Go.Proofs.Ytplghmkicdpbfaa
open Go.ChangeShapes Go.WideShapes Go.ChangeAt Go.RowKit

/-- an instruction -/
structure Ins where
  op : Int
  cond : Int
  size : Int
  a : Opd
  b : Opd
  c : Int
  rep : Bool
  len : Int
  deriving DecidableEq
def insC (i : Ins) : Array Value := #[.int .i64 i.op, .int .i64 i.cond, .int .i64 i.size, .int .i64 i.a.kind, .int .i64 i.a.reg, .int .i64 i.a.base, .int .i64 i.a.index, .int .i64 i.a.scale, .int .u32 i.a.disp, .int .i64 i.b.kind, .int .i64 i.b.reg, .int .i64 i.b.base, .int .i64 i.b.index, .int .i64 i.b.scale, .int .u32 i.b.disp, .int .u32 i.c, .bool i.rep, .int .i64 i.len]
def insV (i : Ins) : Value := .agg (insC i)
def zeroO : Opd := ⟨0, 0, 0, 0, 0, 0⟩
def noneO : Opd := ⟨0, 0, -1, -1, 1, 0⟩
def zeroI : Ins := ⟨0, 0, 0, zeroO, zeroO, 0, false, 0⟩
/-- how far the operands are told: they, the third one's number, the place -/
structure Mst where
  l : List Opd
  c : Int
  at_ : Nat
def needF (size : Int) (c : UInt8) : Nat := if c = 73 then (if size = 4 then 4 else 1) else if c = 98 ∨ c = 66 then 1 else if c = 119 then 2 else if c = 105 ∨ c = 76 ∨ c = 109 then 4 else 0
def valF (need : Nat) (c : UInt8) (bs : Nat → Int) (k : Nat) : Int := if need = 1 then (if c = 73 then bs k else sx9 (bs k)) else if need = 2 then bs k + bs (k + 1) * 256 else if need = 4 then four9 (bs k) (bs (k + 1)) (bs (k + 2)) (bs (k + 3)) else 0
def pushF (f : Frm) (rm : Opd) (reg v : Int) (c : UInt8) : List Opd :=
  if c = 69 then [if f.size = 1 then turnO rm 2 else rm] else if c = 101 then [rm] else if c = 89 then [turnO rm 5] else if c = 71 then [smallO f.size reg] else if c = 103 then [regO 1 reg]
  else if c = 88 then [regO 5 reg] else if c = 114 then [smallO f.size f.c] else if c = 97 then [smallO f.size 0] else if c = 49 then [numO 1] else if c = 99 then [regO 2 1] else if c = 109 then [⟨3, 0, -1, -1, 1, v⟩]
  else if c = 76 ∨ c = 66 then [] else if c = 73 ∨ c = 98 ∨ c = 119 ∨ c = 105 then [numO v] else []
def stepM (f : Frm) (rm : Opd) (reg : Int) (L : Nat) (bs : Nat → Int) (s : Mst) (c : UInt8) : Option Mst :=
  if L < s.at_ + needF f.size c then none
  else some ⟨s.l ++ pushF f rm reg (valF (needF f.size c) c bs s.at_) c, if c = 76 ∨ c = 66 then valF (needF f.size c) c bs s.at_ else s.c, s.at_ + needF f.size c⟩
def runM (f : Frm) (rm : Opd) (reg : Int) (L : Nat) (bs : Nat → Int) : List UInt8 → Mst → Option Mst
  | [], s => some s
  | c :: l, s => (stepM f rm reg L bs s c).bind (runM f rm reg L bs l)
theorem runM_append (f : Frm) (rm : Opd) (reg : Int) (L : Nat) (bs : Nat → Int) (l m : List UInt8) (s : Mst) : runM f rm reg L bs (l ++ m) s = (runM f rm reg L bs l s).bind (runM f rm reg L bs m) := by
  induction l generalizing s with
  | nil => rfl
  | cons c l ih =>
    show (stepM f rm reg L bs s c).bind _ = ((stepM f rm reg L bs s c).bind _).bind _
    cases stepM f rm reg L bs s c with
    | none => rfl
    | some t => exact ih t
theorem runM_snoc (f : Frm) (rm : Opd) (reg : Int) (L : Nat) (bs : Nat → Int) (l : List UInt8) (k : Nat) (h : k < l.length) (s t : Mst) (hr : runM f rm reg L bs (l.take k) s = some t) : runM f rm reg L bs (l.take (k + 1)) s = stepM f rm reg L bs t l[k] := by
  rw [List.take_succ_eq_append_getElem h, runM_append, hr]
  show (stepM f rm reg L bs t l[k]).bind (runM f rm reg L bs []) = _
  cases stepM f rm reg L bs t l[k] <;> rfl
theorem runM_none (f : Frm) (rm : Opd) (reg : Int) (L : Nat) (bs : Nat → Int) (l : List UInt8) (k : Nat) (h : k < l.length) (s t : Mst) (hr : runM f rm reg L bs (l.take k) s = some t) (hn : stepM f rm reg L bs t l[k] = none) : runM f rm reg L bs l s = none := by
  have h1 := runM_snoc f rm reg L bs l k h s t hr
  rw [hn] at h1
  have : l = l.take (k + 1) ++ l.drop (k + 1) := (List.take_append_drop _ _).symm
  rw [this, runM_append, h1]
  rfl
/-- what made answers: the instruction, an error -/
def madeF (i : Ins) (f : Frm) (rm : Opd) (reg : Int) (L : Nat) (bs : Nat → Int) (k : Nat) : Ins × Int :=
  match runM f rm reg L bs f.how ⟨[], i.c, k⟩ with
  | none => (zeroI, 21)
  | some s => ({ i with a := s.l.getD 0 i.a, b := s.l.getD 1 i.b, c := s.c, len := s.at_ }, 0)
def insR (x : Ins × Int) : Value := .tuple #[insV x.1, .int .i64 x.2]
theorem needF_le (size : Int) (c : UInt8) : needF size c ≤ 4 := by unfold needF; repeat' (first | omega | split)
theorem len_ite (p : Prop) [Decidable p] (a b : List Opd) (ha : a.length ≤ 1) (hb : b.length ≤ 1) : (if p then a else b).length ≤ 1 := by split <;> assumption
theorem stepM_some {f : Frm} {rm : Opd} {reg : Int} {L : Nat} {bs : Nat → Int} {s t : Mst} {c : UInt8} (h : stepM f rm reg L bs s c = some t) : t.at_ ≤ L ∧ t.at_ = s.at_ + needF f.size c ∧ t.l.length ≤ s.l.length + 1 := by
  unfold stepM at h
  by_cases hl : L < s.at_ + needF f.size c
  · rw [if_pos hl] at h; cases h
  · rw [if_neg hl] at h
    cases h
    refine ⟨by show s.at_ + needF f.size c ≤ L; omega, rfl, ?_⟩
    show (s.l ++ _).length ≤ _
    rw [List.length_append]
    have : ∀ v, (pushF f rm reg v c).length ≤ 1 := fun v => by
      unfold pushF
      repeat' (first | (with_reducible refine len_ite _ _ _ ?_ ?_) | exact Nat.le_refl _ | exact Nat.zero_le _)
    have := this (valF (needF f.size c) c bs s.at_)
    omega
end Go.Proofs.Ytplghmkicdpbfaa
