/- Bytes behind bytes: append to a slice without room. -/
import Derived.Test.YtblililckmbafaaNew9
import Derived.ArgAppend
namespace Go.Proofs.Ytblililckmbafaa
open Go.ChangeShapes Go.WideShapes Go.ChangeAt Go.RowKit

theorem lst_append_lo (l m : List Int) (i : Nat) (h : i < l.length) : lst (l ++ m) i = lst l i := by
  unfold lst
  simp [List.getD_eq_getElem?_getD, List.getElem?_append_left h]
theorem lst_append_hi (l m : List Int) (i : Nat) : lst (l ++ m) (l.length + i) = lst m i := by
  unfold lst
  rw [List.getD_eq_getElem?_getD, List.getD_eq_getElem?_getD, List.getElem?_append_right (by omega), Nat.add_sub_cancel_left]
theorem info_u8' : (Try.prog.info? 5).map (fun i => (i.zero, i.size, i.bytes)) = some (some (.int .u8 0), 1, 1) := by kernel_rfl
theorem lst_map {k : IntKind} (l : List Int) (j : Nat) (h : j < l.length) : (l.map (Value.int k))[j]? = some (.int k (lst l j)) := by
  unfold lst
  simp [List.getD_eq_getElem?_getD, List.getElem?_eq_getElem h]
theorem slc_own {k : IntKind} {w : World} {base : Nat} {T : TypeId} {v : Value} {l : List Int} (h : w.ownsRow base T 1 v l.length (l.map (.int k))) : Slc k w v l.length (lst l) := by
  obtain ⟨_, hr⟩ := id h
  rcases hr with ⟨rfl, h0⟩ | ⟨g, cap, cur, rfl, _, _, hcap, _⟩
  · exact .inl ⟨rfl, h0⟩
  · exact .inr ⟨_, _, rfl, hcap, fun i hi => h.cells (g := g) rfl i _ (lst_map l i hi)⟩
theorem below_grown {w w' : World} (h : w.grownBy w' none) : Below w.heap.size w w' := ⟨h.os, h.tape, h.output, h.size, fun k hk => h.block k hk (by simp)⟩
theorem int_one (k : IntKind) (l : List Int) : ∀ u ∈ l.map (Value.int k), u.oneCell' = true := by
  intro u hu
  simp only [List.mem_map] at hu
  obtain ⟨x, _, rfl⟩ := hu
  simp [Value.oneCell']
/-- append of bytes to a slice without room -/
theorem append_bytes {w : World} {ops : Array Oper} {rest : List Oper} {o : Oper} {a : Act} {Q : Exit → Act → World → Prop}
    (hg : o.guard = none) (s x : Operand) (hop : o.op = Op.call { callee := Callee.builtin Builtin.append, args := #[s, x], argTypes := #[22, 22] })
    (v1 v2 : Value) (l1 l2 : List Int) (hs : a.eval s = v1) (hx : a.eval x = v2) (ad : Option Addr) (he : v1 = .slice ad l1.length l1.length) (h1 : Slc .u8 w v1 l1.length (lst l1)) (h2 : Slc .u8 w v2 l2.length (lst l2)) (h0 : 0 < l2.length) (hb : l1.length + l2.length ≤ 1000000)
    (hK : ∀ v' w', Slc .u8 w' v' (l1.length + l2.length) (lst (l1 ++ l2)) → Below w.heap.size w w' → wpList Try.prog ops Q rest (a.put o.dst v') w') :
    wpList Try.prog ops Q (o :: rest) a w := by
  obtain ⟨i0, hi, hz0, hz1, hz2⟩ := info_parts info_u8'
  rcases h2 with ⟨_, h⟩ | ⟨b, c, rfl, hc, hcell⟩
  · omega
  refine wpList_append_grows w hg s x _ hop 5 i0 (.int .u8 0) 1 1 Try.underlying22 hi hz0 hz1 hz2 rfl (by decide) ad l1.length l1.length (l1.map (.int .u8)) (hs.trans he) ?_ (by simp) ?_ b l2.length c (l2.map (.int .u8)) hx (by simp) ?_ (int_one _ _) (by omega) (by unfold maxLen; omega) (by omega) ?_
  · intro hn
    rcases h1 with ⟨rfl, h⟩ | ⟨b1, c1, rfl, _, _⟩
    · rw [h]; exact ⟨rfl, rfl⟩
    · injection he with he _ _; rw [hn] at he; cases he
  · intro b1 hb1 j u hj
    have hjl : j < l1.length := by
      have := (List.getElem?_eq_some_iff.1 hj).1
      simpa using this
    rw [lst_map l1 j hjl] at hj
    rcases h1 with ⟨rfl, h⟩ | ⟨b2, c2, rfl, _, hc1⟩
    · omega
    · injection he with he _ _
      rw [hb1] at he
      injection he with he
      rw [← he, hc1 j hjl]
      exact hj
  · intro j u hj
    have hjl : j < l2.length := by
      have := (List.getElem?_eq_some_iff.1 hj).1
      simpa using this
    rw [lst_map l2 j hjl] at hj
    rw [hcell j hjl]
    exact hj
  · intro v' w' ho hgr
    refine hK v' w' ?_ (below_grown hgr)
    rw [← List.map_append, ← List.length_append] at ho
    have := slc_own ho
    rwa [List.length_append] at this
theorem or_add8 (k : Nat) (a b : Int) (a0 : 0 ≤ a) (a1 : a < ((2 ^ k : Nat) : Int)) (b0 : 0 ≤ b) (h : a + b * ((2 ^ k : Nat) : Int) < 256) : bits .or .u8 (b * ((2 ^ k : Nat) : Int)) a = a + b * ((2 ^ k : Nat) : Int) := by
  obtain ⟨x, rfl⟩ : ∃ x : Nat, a = (x : Int) := ⟨a.toNat, by omega⟩
  obtain ⟨y, rfl⟩ : ∃ y : Nat, b = (y : Int) := ⟨b.toNat, by omega⟩
  have e : (y : Int) * ((2 ^ k : Nat) : Int) = ((y * 2 ^ k : Nat) : Int) := by push_cast; rfl
  rw [e] at h ⊢
  have hx : x < 2 ^ k := by omega
  rw [u8_or_nat (y * 2 ^ k) x (by omega) (by omega)]
  have := Nat.shiftLeft_add_eq_or_of_lt hx y
  rw [Nat.shiftLeft_eq] at this
  rw [← this]
  omega
theorem rm_six (b : Int) (l : List Int) (h3 : b / 64 ≠ 3) (hl : 5 ≤ l.length) : ∃ o n, rmF (l.length + 1) (lst (b :: l)) = some (o, b / 8 % 8, n) := by
  have hm4 : ∀ md base, more9 md base ≤ 4 := fun md base => by unfold more9; split <;> (try split) <;> omega
  have e : lst (b :: l) 0 = b := rfl
  unfold rmF
  rw [if_neg (by omega), e, if_neg h3]
  by_cases hr : b % 8 = 4
  · rw [if_pos hr, if_neg (by omega), if_neg (by have := hm4 (b / 64) (lst (b :: l) 1 % 8); omega)]
    exact ⟨_, _, rfl⟩
  · rw [if_neg hr, if_neg (by have := hm4 (b / 64) (b % 8); omega)]
    exact ⟨_, _, rfl⟩
end Go.Proofs.Ytblililckmbafaa
