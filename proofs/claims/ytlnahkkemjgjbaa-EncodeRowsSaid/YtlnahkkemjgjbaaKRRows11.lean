import Derived.Test.YtlnahkkemjgjbaaKRAll11
namespace Go.Proofs.Ytlnahkkemjgjbaa
open Go.ChangeShapes Go.WideShapes Go.ChangeAt Go.RowKit
def rdOk (x : Ins) : Prop := ∃ L bs, (∀ i, 0 ≤ bs i ∧ bs i < 256) ∧ oneF L bs = (x, 0)
theorem rdOk.disp {x : Ins} (h : rdOk x) : dispOk x.a ∧ dispOk x.b := by obtain ⟨L, bs, hb, h⟩ := h; exact one_ok hb h
theorem rdOk.enc {x : Ins} (h : rdOk x) : (encF x).2 = 0 := by obtain ⟨L, bs, hb, h⟩ := h; exact enc_some hb h
theorem enc_op0 (x : Ins) : encF { x with op := 0 } = ([], 22) := by
  have h : spellF { x with op := 0 } = [] := rfl
  unfold encF
  rw [h]
  rfl
theorem rowI_set : ∀ (l : List Ins) (k : Nat) (h : k < l.length), rowI (l.set k { l[k] with op := 0 }) = (rowI l).set (k * 18) (.int .i64 0)
  | o :: l, 0, _ => by
    show inI { o with op := 0 } ++ rowI l = (inI o ++ rowI l).set (0 * 18) _
    rw [Nat.zero_mul]
    rfl
  | o :: l, k + 1, h => by
    show inI o ++ rowI (l.set k { l[k]'(by simpa using h) with op := 0 }) = (inI o ++ rowI l).set ((k + 1) * 18) _
    rw [rowI_set l k (by simpa using h), List.set_append_right _ _ (by show 18 ≤ (k + 1) * 18; omega)]
    have e : (k + 1) * 18 - (inI o).length = k * 18 := by show (k + 1) * 18 - 18 = _; omega
    rw [e]
theorem OwnI.set_op {w : World} {base g cap : Nat} {l : List Ins} (h : OwnI w base (.slice (some ⟨g, 0, none⟩) l.length cap) l) (k : Nat) (hk : k < l.length) : OwnI (w.setCell ⟨g, k * 18, none⟩ (.int .i64 0)) base (.slice (some ⟨g, 0, none⟩) l.length cap) (l.set k { l[k] with op := 0 }) := by
  unfold OwnI
  rw [rowI_set l k hk, List.length_set]
  exact (World.ownsRow.stored h (k * 18) _).1
def StoI (I : Ins) (u : World) (k : Nat) : Prop := u.heap[k]? = some (.cells (insC I) 27 (0, 0))
def BlkI (I : Ins) (u : World) (k : Nat) : Prop := u.heap[k]? = some (.cells zeroA 27 (0, 0)) ∨ StoI I u k
def KeptI (I : Ins) (u u' : World) : Prop := u.heap.size ≤ u'.heap.size ∧ (∀ k, BlkI I u k → BlkI I u' k) ∧ (∀ k, StoI I u k → StoI I u' k) ∧ (∀ v L bs, Slc .u8 u v L bs → Slc .u8 u' v L bs)
theorem kepti_refl (I : Ins) (u : World) : KeptI I u u := ⟨Nat.le_refl _, fun _ h => h, fun _ h => h, fun _ _ _ h => h⟩
theorem kepti_below {I : Ins} {u u' : World} (h : Below u.heap.size u u') : KeptI I u u' :=
  ⟨h.size, fun _ hk => hk.elim (fun e => .inl (on_block e h)) (fun e => .inr (on_block e h)), fun _ e => on_block e h, fun _ _ _ hs => hs.below h⟩
theorem zero_noIns : zeroA.all noIns = true := by simp [zeroA, noIns]
theorem setL_ins2 (I J : Ins) : setL (insC J) 0 (insL I) = insC I := by kernel_rfl
theorem kepti_put {I : Ins} {u : World} {k : Nat} (h : BlkI I u k) : KeptI I u (u.setCells k 0 (insL I)) ∧ StoI I (u.setCells k 0 (insL I)) k := by
  have hs : StoI I (u.setCells k 0 (insL I)) k := by
    rcases h with h | h
    · have := block_setCells (insL I) 0 u zeroA h
      rw [setL_ins] at this
      exact this
    · have := block_setCells (insL I) 0 u (insC I) h
      rw [setL_ins2] at this
      exact this
  refine ⟨⟨by rw [setCells_size]; exact Nat.le_refl _, fun q hq => ?_, fun q hq => ?_, fun v L bs hv => ?_⟩, hs⟩
  · by_cases e : q = k
    · rw [e]; exact .inr hs
    · exact hq.elim (fun x => .inl ((other_setCells e _ _ _).trans x)) (fun x => .inr ((other_setCells e _ _ _).trans x))
  · by_cases e : q = k
    · rw [e]; exact hs
    · exact (other_setCells e _ _ _).trans hq
  · have hB : Below k u (u.setCells k 0 (insL I)) := below_setCells (Nat.le_refl _) _ _ _ (Below.refl _ _)
    have hb : But (· = k) u (u.setCells k 0 (insL I)) := ⟨hB.os, hB.tape, hB.output, by rw [setCells_size]; exact Nat.le_refl _, fun q _ hq => other_setCells hq _ _ _⟩
    refine hv.but hb (fun hL j hj => ?_)
    rcases hv with ⟨rfl, h0⟩ | ⟨ad, cap, rfl, hl, hc⟩
    · omega
    · injection hj with hj
      intro e
      have hc0 := hc 0 hL
      have hbk : ∃ C : Array Value, u.heap[k]? = some (.cells C 27 (0, 0)) ∧ C.all noIns = true := h.elim (fun x => ⟨_, x, zero_noIns⟩) (fun x => ⟨_, x, ins_noIns I⟩)
      obtain ⟨C, hC, hn⟩ := hbk
      unfold World.cell? at hc0
      rw [add_block, hj, e, hC] at hc0
      simp only at hc0
      split at hc0
      · cases hc0
      · obtain ⟨hi, hg⟩ := Array.getElem?_eq_some_iff.1 hc0
        have := Array.all_eq_true.1 hn _ hi
        rw [hg] at this
        cases this
end Go.Proofs.Ytlnahkkemjgjbaa
