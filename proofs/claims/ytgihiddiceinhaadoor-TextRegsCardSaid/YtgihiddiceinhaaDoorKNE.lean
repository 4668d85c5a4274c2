import Derived.RegionTactic
import Derived.ChangeAlike
import Derived.Test.YtgihiddiceinhaaDoorKND
namespace Go.Proofs.YtgihiddiceinhaaDoor
section
open Go.ChangeShapes Go.WideShapes Go.ChangeAt Go.RowKit
def secondF (p c : Int) : Frm × Bool :=
  if p = 0 then
    if 64 ≤ c ∧ c < 80 then (⟨36, c % 16, 4, [71, 69], 0⟩, true)
    else if 128 ≤ c ∧ c < 144 then (⟨31, c % 16, 0, [105], 0⟩, true)
    else if 144 ≤ c ∧ c < 160 then (⟨35, c % 16, 1, [69], 0⟩, true)
    else if c = 175 then (⟨25, 0, 4, [71, 69], 0⟩, true)
    else if c = 182 ∨ c = 183 then (⟨19, 0, 1 + c % 2, [103, 69], 0⟩, true)
    else if c = 190 ∨ c = 191 then (⟨20, 0, 1 + c % 2, [103, 69], 0⟩, true)
    else (nilF, false)
  else if p = 242 then
    if c = 16 then (⟨51, 0, 8, [88, 89], 0⟩, true)
    else if c = 17 then (⟨51, 0, 8, [89, 88], 0⟩, true)
    else if c = 42 then (⟨59, 0, 4, [88, 101], 0⟩, true)
    else if c = 44 then (⟨60, 0, 8, [103, 89], 0⟩, true)
    else if c = 81 then (⟨58, 0, 8, [88, 89], 0⟩, true)
    else if c = 88 then (⟨52, 0, 8, [88, 89], 0⟩, true)
    else if c = 89 then (⟨53, 0, 8, [88, 89], 0⟩, true)
    else if c = 92 then (⟨54, 0, 8, [88, 89], 0⟩, true)
    else if c = 93 then (⟨55, 0, 8, [88, 89], 0⟩, true)
    else if c = 94 then (⟨56, 0, 8, [88, 89], 0⟩, true)
    else if c = 95 then (⟨57, 0, 8, [88, 89], 0⟩, true)
    else (⟨0, 0, 8, [], 0⟩, false)
  else if c = 46 then (⟨61, 0, 8, [88, 89], 0⟩, true)
  else (nilF, false)
def secL (x : Frm × Bool) : Value := .tuple #[.agg #[.int .i64 x.1.op, .int .i64 x.1.cond, .int .i64 x.1.size, .string ⟨x.1.how.toArray⟩, .int .i64 x.1.c], .bool x.2]
end
section
def goF (L : Nat) (bs : Nat → Int) (f : Frm) (rep : Bool) (k : Nat) : Ins × Int :=
  if hasF f.how then
    match rmF (L - k) (fun i => bs (k + i)) with
    | none => (zeroI, 21)
    | some (o, r, n) => madeF ⟨f.op, f.cond, f.size, noneO, noneO, 0, rep, 0⟩ f o r L bs (k + n)
  else madeF ⟨f.op, f.cond, f.size, noneO, noneO, 0, rep, 0⟩ f zeroO 0 L bs k
def twoF (L : Nat) (bs : Nat → Int) (p : Int) (k : Nat) : Ins × Int :=
  if L ≤ k then (zeroI, 21) else if (secondF p (bs k)).2 then goF L bs (secondF p (bs k)).1 false (k + 1) else (zeroI, 22)
def oneF (L : Nat) (bs : Nat → Int) : Ins × Int :=
  if L = 0 then (zeroI, 21)
  else if bs 0 = 243 then
    if L < 2 then (zeroI, 21)
    else if bs 1 = 164 ∨ bs 1 = 165 ∨ bs 1 = 170 ∨ bs 1 = 171 then goF L bs (firstF (bs 1) (-1) false).1 true 2
    else (zeroI, 22)
  else if bs 0 = 15 then twoF L bs 0 1
  else if bs 0 = 242 ∨ bs 0 = 102 then
    if L < 2 then (zeroI, 21) else if bs 1 = 15 then twoF L bs (bs 0) 2 else (zeroI, 22)
  else if (firstF (bs 0) (behF L bs 1) (behM L bs 1)).2.2 then (zeroI, 21)
  else if (firstF (bs 0) (behF L bs 1) (behM L bs 1)).2.1 then goF L bs (firstF (bs 0) (behF L bs 1) (behM L bs 1)).1 false 1
  else (zeroI, 22)
end
section
theorem rm_three {L : Nat} {bs : Nat → Int} {o : Opd} {r : Int} {n : Nat} (h : rmF L bs = some (o, r, n)) : n ≤ L ∧ (o.kind = if bs 0 / 64 = 3 then 1 else 3) := by
  unfold rmF at h
  split at h
  · cases h
  · rename_i h0
    split at h
    · rename_i h3
      injection h with h
      injection h with h h'
      injection h' with h1 h2
      subst h h2
      exact ⟨by omega, by rw [if_pos h3]⟩
    · rename_i h3
      split at h
      · split at h
        · cases h
        · split at h
          · cases h
          · injection h with h
            injection h with h h'
            injection h' with h1 h2
            subst h h2
            exact ⟨by omega, by rw [if_neg h3]⟩
      · split at h
        · cases h
        · injection h with h
          injection h with h h'
          injection h' with h1 h2
          subst h h2
          exact ⟨by omega, by rw [if_neg h3]⟩
end
end Go.Proofs.YtgihiddiceinhaaDoor
