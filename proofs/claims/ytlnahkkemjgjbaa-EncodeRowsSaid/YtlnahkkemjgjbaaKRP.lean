import Derived.KernelRfl
import Derived.Laws.StructEq
import Derived.Test.YtlnahkkemjgjbaaKRE
namespace Go.Proofs.Ytlnahkkemjgjbaa
section
def alike (n : Nat) (bs bs' : Nat → Int) : Prop := ∀ i, i < n → bs' i = bs i
theorem alike_at {k m n : Nat} {bs bs' : Nat → Int} (h : alike n bs bs') (hm : k + m ≤ n) : alike m (fun i => bs (k + i)) (fun i => bs' (k + i)) := fun i hi => h (k + i) (by omega)
theorem disp_alike {k : Nat} {bs bs' : Nat → Int} {m n : Nat} (ha : alike n bs bs') (h : m + k ≤ n) : disp9 k bs' m = disp9 k bs m := by
  unfold disp9
  by_cases h1 : k = 1
  · rw [if_pos h1, if_pos h1, ha m (by omega)]
  · rw [if_neg h1, if_neg h1]
    by_cases h4 : k = 4
    · rw [if_pos h4, if_pos h4, ha m (by omega), ha (m + 1) (by omega), ha (m + 2) (by omega), ha (m + 3) (by omega)]
    · rw [if_neg h4, if_neg h4]
theorem rm_more {L n : Nat} {bs : Nat → Int} {o : Opd} {r : Int} (h : rmF L bs = some (o, r, n)) : 1 ≤ n ∧ n ≤ L ∧ ∀ L' bs', alike n bs bs' → (n ≤ L' → rmF L' bs' = some (o, r, n)) ∧ (L' < n → rmF L' bs' = none) := by
  unfold rmF at h
  by_cases h0 : L = 0
  · rw [if_pos h0] at h; cases h
  rw [if_neg h0] at h
  by_cases h3 : bs 0 / 64 = 3
  · rw [if_pos h3] at h
    cases h
    refine ⟨by omega, by omega, fun L' bs' ha => ⟨fun hL => ?_, fun hL => ?_⟩⟩
    · unfold rmF; rw [if_neg (by omega), ha 0 (by omega), if_pos h3]
    · unfold rmF; rw [if_pos (by omega)]
  rw [if_neg h3] at h
  by_cases h4 : bs 0 % 8 = 4
  · rw [if_pos h4] at h
    by_cases h2 : L < 2
    · rw [if_pos h2] at h; cases h
    rw [if_neg h2] at h
    by_cases h5 : L < 2 + more9 (bs 0 / 64) (bs 1 % 8)
    · rw [if_pos h5] at h; cases h
    rw [if_neg h5] at h
    cases h
    refine ⟨by omega, by omega, fun L' bs' ha => ?_⟩
    have e0 := ha 0 (by omega)
    have e1 := ha 1 (by omega)
    refine ⟨fun hL => ?_, fun hL => ?_⟩
    · unfold rmF
      rw [if_neg (by omega), e0, e1, if_neg h3, if_pos h4, if_neg (by omega), if_neg (by omega), disp_alike ha (by omega)]
    · unfold rmF
      by_cases k0 : L' = 0
      · rw [if_pos k0]
      rw [if_neg k0, e0, if_neg h3, if_pos h4]
      by_cases k1 : L' < 2
      · rw [if_pos k1]
      rw [if_neg k1, e1, if_pos (by omega)]
  · rw [if_neg h4] at h
    by_cases h5 : L < 1 + more9 (bs 0 / 64) (bs 0 % 8)
    · rw [if_pos h5] at h; cases h
    rw [if_neg h5] at h
    cases h
    refine ⟨by omega, by omega, fun L' bs' ha => ?_⟩
    have e0 := ha 0 (by omega)
    refine ⟨fun hL => ?_, fun hL => ?_⟩
    · unfold rmF
      rw [if_neg (by omega), e0, if_neg h3, if_neg h4, if_neg (by omega), disp_alike ha (by omega)]
    · unfold rmF
      by_cases k0 : L' = 0
      · rw [if_pos k0]
      rw [if_neg k0, e0, if_neg h3, if_neg h4, if_pos (by omega)]
theorem val_alike {need : Nat} {c : UInt8} {bs bs' : Nat → Int} {k n : Nat} (ha : alike n bs bs') (h : k + need ≤ n) : valF need c bs' k = valF need c bs k := by
  unfold valF
  by_cases h1 : need = 1
  · rw [if_pos h1, if_pos h1, ha k (by omega)]
  · rw [if_neg h1, if_neg h1]
    by_cases h2 : need = 2
    · rw [if_pos h2, if_pos h2, ha k (by omega), ha (k + 1) (by omega)]
    · rw [if_neg h2, if_neg h2]
      by_cases h4 : need = 4
      · rw [if_pos h4, if_pos h4, ha k (by omega), ha (k + 1) (by omega), ha (k + 2) (by omega), ha (k + 3) (by omega)]
      · rw [if_neg h4, if_neg h4]
theorem run_more {f : Frm} {rm : Opd} {reg : Int} {L : Nat} {bs : Nat → Int} (l : List UInt8) {s t : Mst} (h : runM f rm reg L bs l s = some t) : s.at_ ≤ t.at_ ∧ (s.at_ ≤ L → t.at_ ≤ L) ∧ ∀ L' bs', alike t.at_ bs bs' → (t.at_ ≤ L' → runM f rm reg L' bs' l s = some t) ∧ (s.at_ ≤ L' → L' < t.at_ → runM f rm reg L' bs' l s = none) := by
  induction l generalizing s with
  | nil =>
    cases h
    exact ⟨Nat.le_refl _, fun h => h, fun L' bs' _ => ⟨fun _ => rfl, fun h1 h2 => by omega⟩⟩
  | cons c l ih =>
    have h : (stepM f rm reg L bs s c).bind (runM f rm reg L bs l) = some t := h
    by_cases hl : L < s.at_ + needF f.size c
    · unfold stepM at h
      rw [if_pos hl] at h
      cases h
    · unfold stepM at h
      rw [if_neg hl] at h
      obtain ⟨i1, i2, i3⟩ := ih h
      have i1 : s.at_ + needF f.size c ≤ t.at_ := i1
      have i2 : s.at_ + needF f.size c ≤ L → t.at_ ≤ L := i2
      refine ⟨by omega, fun _ => i2 (by omega), fun L' bs' ha => ?_⟩
      obtain ⟨j1, j2⟩ := i3 L' bs' ha
      have j2 : s.at_ + needF f.size c ≤ L' → L' < t.at_ → _ := j2
      have e : ∀ x, runM f rm reg L' bs' (c :: l) s = x ↔ (stepM f rm reg L' bs' s c).bind (runM f rm reg L' bs' l) = x := fun x => Iff.rfl
      refine ⟨fun hL => (e _).2 ?_, fun h1 h2 => (e _).2 ?_⟩
      · unfold stepM
        rw [if_neg (by omega), val_alike ha (by omega)]
        exact j1 hL
      · by_cases hn : L' < s.at_ + needF f.size c
        · unfold stepM
          rw [if_pos hn]
          rfl
        · unfold stepM
          rw [if_neg hn, val_alike ha (by omega)]
          exact j2 (by omega) h2
def Ends (F : Nat → (Nat → Int) → Ins × Int) (k L : Nat) (bs : Nat → Int) (j : Ins) (n : Nat) : Prop :=
  j.len = n ∧ k ≤ n ∧ n ≤ L ∧ ∀ L' bs', alike n bs bs' → (n ≤ L' → F L' bs' = (j, 0)) ∧ (k ≤ L' → L' < n → F L' bs' = (zeroI, 21))
theorem made_ends {i : Ins} {f : Frm} {rm : Opd} {reg : Int} {L : Nat} {bs : Nat → Int} {k : Nat} {j : Ins} (h : madeF i f rm reg L bs k = (j, 0)) (hk : k ≤ L) : ∃ n, Ends (fun L bs => madeF i f rm reg L bs k) k L bs j n := by
  unfold madeF at h
  cases hr : runM f rm reg L bs f.how ⟨[], i.c, k⟩ with
  | none => rw [hr] at h; injection h with _ h; exact absurd h (by decide)
  | some t =>
    rw [hr] at h
    injection h with h _
    obtain ⟨m1, m2, m3⟩ := run_more _ hr
    refine ⟨t.at_, by rw [← h], m1, m2 hk, fun L' bs' ha => ⟨fun hL => ?_, fun h1 h2 => ?_⟩⟩
    · show madeF i f rm reg L' bs' k = _
      unfold madeF
      rw [(m3 L' bs' ha).1 hL, ← h]
    · show madeF i f rm reg L' bs' k = _
      unfold madeF
      rw [(m3 L' bs' ha).2 h1 h2]
theorem go_ends {L : Nat} {bs : Nat → Int} {f : Frm} {rep : Bool} {k : Nat} {j : Ins} (h : goF L bs f rep k = (j, 0)) (hk : k ≤ L) : ∃ n, Ends (fun L bs => goF L bs f rep k) k L bs j n ∧ (hasF f.how = true → k < n) := by
  unfold goF at h
  cases hf : hasF f.how with
  | false =>
    rw [hf, if_neg (by decide)] at h
    obtain ⟨n, h1, h2, h3, h4⟩ := made_ends h hk
    refine ⟨n, ⟨h1, h2, h3, fun L' bs' ha => ?_⟩, fun h => by cases h⟩
    show (n ≤ L' → goF L' bs' f rep k = _) ∧ (k ≤ L' → L' < n → goF L' bs' f rep k = _)
    unfold goF
    rw [hf, if_neg (by decide)]
    exact h4 L' bs' ha
  | true =>
    rw [hf, if_pos rfl] at h
    cases hr : rmF (L - k) (fun i => bs (k + i)) with
    | none => rw [hr] at h; injection h with _ h; exact absurd h (by decide)
    | some x =>
      obtain ⟨o, r, m⟩ := x
      rw [hr] at h
      obtain ⟨r1, r2, r3⟩ := rm_more hr
      obtain ⟨n, h1, h2, h3, h4⟩ := made_ends h (by omega)
      refine ⟨n, ⟨h1, by omega, h3, fun L' bs' ha => ?_⟩, fun _ => by omega⟩
      obtain ⟨q1, q2⟩ := r3 (L' - k) (fun i => bs' (k + i)) (alike_at ha (by omega))
      obtain ⟨p1, p2⟩ := h4 L' bs' ha
      refine ⟨fun hL => ?_, fun l1 l2 => ?_⟩
      · show goF L' bs' f rep k = _
        unfold goF
        rw [hf, if_pos rfl, q1 (by omega)]
        exact p1 hL
      · show goF L' bs' f rep k = _
        unfold goF
        rw [hf, if_pos rfl]
        by_cases hm : L' - k < m
        · rw [q2 hm]
        · rw [q1 (by omega)]
          exact p2 (by omega) l2
theorem two_ends {L : Nat} {bs : Nat → Int} {p : Int} {k : Nat} {j : Ins} (h : twoF L bs p k = (j, 0)) : ∃ n, k < n ∧ Ends (fun L bs => twoF L bs p k) 0 L bs j n := by
  unfold twoF at h
  by_cases hl : L ≤ k
  · rw [if_pos hl] at h; injection h with _ h; exact absurd h (by decide)
  rw [if_neg hl] at h
  by_cases h2 : (secondF p (bs k)).2 = true
  · rw [if_pos h2] at h
    obtain ⟨n, ⟨h1, h3, h4, h5⟩, _⟩ := go_ends h (by omega)
    refine ⟨n, by omega, h1, by omega, h4, fun L' bs' ha => ?_⟩
    obtain ⟨p1, p2⟩ := h5 L' bs' ha
    have e := ha k (by omega)
    refine ⟨fun hL => ?_, fun _ l2 => ?_⟩
    · show twoF L' bs' p k = _
      unfold twoF
      rw [if_neg (by omega), e, if_pos h2]
      exact p1 hL
    · show twoF L' bs' p k = _
      unfold twoF
      by_cases l3 : L' ≤ k
      · rw [if_pos l3]
      · rw [if_neg l3, e, if_pos h2]
        exact p2 (by omega) l2
  · rw [if_neg h2] at h; injection h with _ h; exact absurd h (by decide)
def chk3 (c r : Int) (m : Bool) : Bool := if (firstF c (-1) false).2.2 then (!(firstF c r m).2.1 || (firstF c r m).2.2 || hasF (firstF c r m).1.how) else decide (firstF c (-1) false = firstF c r m)
theorem chk3_all : ((List.range 256).all fun n => (List.range 9).all fun k => chk3 n ((k : Int) - 1) true && chk3 n ((k : Int) - 1) false) = true := by kernel_rfl
theorem chk3_at (c r : Int) (m : Bool) (c0 : 0 ≤ c) (c1 : c < 256) (r0 : -1 ≤ r) (r1 : r < 8) : chk3 c r m = true := by
  obtain ⟨n, rfl⟩ := Int.eq_ofNat_of_zero_le c0
  obtain ⟨k, hk⟩ : ∃ k : Nat, r = (k : Int) - 1 := ⟨(r + 1).toNat, by omega⟩
  subst hk
  have h1 := List.all_eq_true.1 chk3_all n (List.mem_range.2 (by omega))
  have h2 := List.all_eq_true.1 h1 k (List.mem_range.2 (by omega))
  simp only [Bool.and_eq_true] at h2
  cases m
  · exact h2.2
  · exact h2.1
theorem behF_in (L : Nat) (bs : Nat → Int) (k : Nat) : -1 ≤ behF L bs k ∧ behF L bs k < 8 := by unfold behF; split <;> omega
theorem beh_alike {L L' : Nat} {bs bs' : Nat → Int} (h : 1 < L) (h' : 1 < L') (e : bs' 1 = bs 1) : behF L' bs' 1 = behF L bs 1 ∧ behM L' bs' 1 = behM L bs 1 := by
  unfold behF behM
  rw [if_pos h, if_pos h', e, decide_eq_true h, decide_eq_true h']
  exact ⟨rfl, rfl⟩
theorem beh_none {L : Nat} (bs : Nat → Int) (h : L ≤ 1) : behF L bs 1 = -1 ∧ behM L bs 1 = false := by
  unfold behF behM
  rw [if_neg (by omega), decide_eq_false (by omega)]
  exact ⟨rfl, rfl⟩
theorem one_ends {L : Nat} {bs : Nat → Int} {j : Ins} (h : oneF L bs = (j, 0)) (c0 : 0 ≤ bs 0) (c1 : bs 0 < 256) : ∃ n, 1 ≤ n ∧ Ends oneF 0 L bs j n := by
  unfold oneF at h
  by_cases h0 : L = 0
  · rw [if_pos h0] at h; injection h with _ h; exact absurd h (by decide)
  rw [if_neg h0] at h
  by_cases hF3 : bs 0 = 243
  · rw [if_pos hF3] at h
    by_cases h2 : L < 2
    · rw [if_pos h2] at h; injection h with _ h; exact absurd h (by decide)
    rw [if_neg h2] at h
    by_cases hs : bs 1 = 164 ∨ bs 1 = 165 ∨ bs 1 = 170 ∨ bs 1 = 171
    · rw [if_pos hs] at h
      obtain ⟨n, ⟨e1, e2, e3, e4⟩, _⟩ := go_ends h (by omega)
      refine ⟨n, by omega, e1, by omega, e3, fun L' bs' ha => ?_⟩
      obtain ⟨p1, p2⟩ := e4 L' bs' ha
      have b0 := ha 0 (by omega)
      have b1 := ha 1 (by omega)
      refine ⟨fun hL => ?_, fun _ l2 => ?_⟩
      · unfold oneF
        rw [if_neg (by omega), b0, if_pos hF3, if_neg (by omega), b1, if_pos hs]
        exact p1 hL
      · unfold oneF
        by_cases k0 : L' = 0
        · rw [if_pos k0]
        rw [if_neg k0, b0, if_pos hF3]
        by_cases k2 : L' < 2
        · rw [if_pos k2]
        rw [if_neg k2, b1, if_pos hs]
        exact p2 (by omega) l2
    · rw [if_neg hs] at h; injection h with _ h; exact absurd h (by decide)
  rw [if_neg hF3] at h
  by_cases h0F : bs 0 = 15
  · rw [if_pos h0F] at h
    obtain ⟨n, n1, e1, e2, e3, e4⟩ := two_ends h
    refine ⟨n, by omega, e1, by omega, e3, fun L' bs' ha => ?_⟩
    obtain ⟨p1, p2⟩ := e4 L' bs' ha
    have b0 := ha 0 (by omega)
    refine ⟨fun hL => ?_, fun _ l2 => ?_⟩
    · unfold oneF
      rw [if_neg (by omega), b0, if_neg hF3, if_pos h0F]
      exact p1 hL
    · unfold oneF
      by_cases k0 : L' = 0
      · rw [if_pos k0]
      rw [if_neg k0, b0, if_neg hF3, if_pos h0F]
      exact p2 (by omega) l2
  rw [if_neg h0F] at h
  by_cases hp : bs 0 = 242 ∨ bs 0 = 102
  · rw [if_pos hp] at h
    by_cases h2 : L < 2
    · rw [if_pos h2] at h; injection h with _ h; exact absurd h (by decide)
    rw [if_neg h2] at h
    by_cases h1 : bs 1 = 15
    · rw [if_pos h1] at h
      obtain ⟨n, n1, e1, e2, e3, e4⟩ := two_ends h
      refine ⟨n, by omega, e1, by omega, e3, fun L' bs' ha => ?_⟩
      obtain ⟨p1, p2⟩ := e4 L' bs' ha
      have b0 := ha 0 (by omega)
      have b1 := ha 1 (by omega)
      refine ⟨fun hL => ?_, fun _ l2 => ?_⟩
      · unfold oneF
        rw [if_neg (by omega), b0, if_neg hF3, if_neg h0F, if_pos hp, if_neg (by omega), b1, if_pos h1]
        exact p1 hL
      · unfold oneF
        by_cases k0 : L' = 0
        · rw [if_pos k0]
        rw [if_neg k0, b0, if_neg hF3, if_neg h0F, if_pos hp]
        by_cases k2 : L' < 2
        · rw [if_pos k2]
        rw [if_neg k2, b1, if_pos h1]
        exact p2 (by omega) l2
    · rw [if_neg h1] at h; injection h with _ h; exact absurd h (by decide)
  rw [if_neg hp] at h
  have hbd := behF_in L bs 1
  have hc := chk3_at (bs 0) (behF L bs 1) (behM L bs 1) c0 c1 hbd.1 hbd.2
  by_cases hw : (firstF (bs 0) (behF L bs 1) (behM L bs 1)).2.2 = true
  · rw [if_pos hw] at h; injection h with _ h; exact absurd h (by decide)
  rw [if_neg hw] at h
  by_cases hok : (firstF (bs 0) (behF L bs 1) (behM L bs 1)).2.1 = true
  · rw [if_pos hok] at h
    obtain ⟨n, ⟨e1, e2, e3, e4⟩, hhas⟩ := go_ends h (by omega)
    refine ⟨n, e2, e1, by omega, e3, fun L' bs' ha => ?_⟩
    obtain ⟨p1, p2⟩ := e4 L' bs' ha
    have b0 := ha 0 (by omega)
    have same : firstF (bs 0) (behF L' bs' 1) (behM L' bs' 1) = firstF (bs 0) (behF L bs 1) (behM L bs 1) → (n ≤ L' → oneF L' bs' = (j, 0)) ∧ (0 ≤ L' → L' < n → oneF L' bs' = (zeroI, 21)) := fun e => by
      refine ⟨fun hL => ?_, fun _ l2 => ?_⟩
      · unfold oneF
        rw [if_neg (by omega), b0, if_neg hF3, if_neg h0F, if_neg hp, e, if_neg hw, if_pos hok]
        exact p1 hL
      · unfold oneF
        by_cases k0 : L' = 0
        · rw [if_pos k0]
        rw [if_neg k0, b0, if_neg hF3, if_neg h0F, if_neg hp, e, if_neg hw, if_pos hok]
        exact p2 (by omega) l2
    unfold chk3 at hc
    by_cases hwt : (firstF (bs 0) (-1) false).2.2 = true
    · rw [if_pos hwt, hok] at hc
      have hwf : (firstF (bs 0) (behF L bs 1) (behM L bs 1)).2.2 = false := by simpa using hw
      rw [hwf] at hc
      have hh : hasF (firstF (bs 0) (behF L bs 1) (behM L bs 1)).1.how = true := by simpa using hc
      have hn := hhas hh
      by_cases k1 : 1 < L'
      · obtain ⟨y1, y2⟩ := beh_alike (L := L) (L' := L') (by omega) k1 (ha 1 hn)
        exact same (by rw [y1, y2])
      · obtain ⟨y1, y2⟩ := beh_none (L := L') bs' (by omega)
        refine ⟨fun hL => by omega, fun _ _ => ?_⟩
        unfold oneF
        by_cases k0 : L' = 0
        · rw [if_pos k0]
        rw [if_neg k0, b0, if_neg hF3, if_neg h0F, if_neg hp, y1, y2, if_pos hwt]
    · rw [if_neg hwt] at hc
      have q1 := of_decide_eq_true hc
      have hbd' := behF_in L' bs' 1
      have hc' := chk3_at (bs 0) (behF L' bs' 1) (behM L' bs' 1) c0 c1 hbd'.1 hbd'.2
      unfold chk3 at hc'
      rw [if_neg hwt] at hc'
      exact same ((of_decide_eq_true hc').symm.trans q1)
  · rw [if_neg hok] at h; injection h with _ h; exact absurd h (by decide)
end
section
def allS (L : Nat) (bs : Nat → Int) : Nat → Nat → List Ins → List Ins × Nat × Int
  | 0, _, l => (l, 0, 0)
  | n + 1, k, l => if k < L then (if (oneF (L - k) (fun i => bs (k + i))).2 = 0 then allS L bs n (k + (oneF (L - k) (fun i => bs (k + i))).1.len.toNat) (l ++ [(oneF (L - k) (fun i => bs (k + i))).1]) else ([], k, (oneF (L - k) (fun i => bs (k + i))).2)) else (l, 0, 0)
def allF (L : Nat) (bs : Nat → Int) : List Ins × Nat × Int := allS L bs (L + 1) 0 []
theorem one_len {L : Nat} {bs : Nat → Int} (hb : ∀ i, 0 ≤ bs i ∧ bs i < 256) (h : (oneF L bs).2 = 0) : ∃ n : Nat, (oneF L bs).1.len = n ∧ 1 ≤ n ∧ n ≤ L := by
  obtain ⟨n, h1, e1, _, e3, _⟩ := one_ends (L := L) (bs := bs) (j := (oneF L bs).1) (Prod.ext rfl h) (hb 0).1 (hb 0).2
  exact ⟨n, e1, h1, e3⟩
structure AllAt (L : Nat) (bs : Nat → Int) (n k : Nat) (l : List Ins) : Prop where
  left : L < n + k
  le : k ≤ L
  same : allS L bs n k l = allF L bs
  few : l.length ≤ k
theorem all_start (L : Nat) (bs : Nat → Int) : AllAt L bs (L + 1) 0 [] := ⟨by omega, Nat.zero_le _, rfl, Nat.le_refl _⟩
theorem all_end {L : Nat} {bs : Nat → Int} {n k : Nat} {l : List Ins} (h : AllAt L bs n k l) (hk : k = L) : allF L bs = (l, 0, 0) := by
  rw [← h.same]
  obtain ⟨m, rfl⟩ : ∃ m, n = m + 1 := ⟨n - 1, by have := h.left; omega⟩
  unfold allS
  rw [if_neg (by omega)]
theorem all_bad {L : Nat} {bs : Nat → Int} {n k : Nat} {l : List Ins} (h : AllAt L bs n k l) (hk : k < L) (he : (oneF (L - k) (fun i => bs (k + i))).2 ≠ 0) : allF L bs = ([], k, (oneF (L - k) (fun i => bs (k + i))).2) := by
  rw [← h.same]
  obtain ⟨m, rfl⟩ : ∃ m, n = m + 1 := ⟨n - 1, by have := h.left; omega⟩
  unfold allS
  rw [if_pos hk, if_neg he]
theorem all_next {L : Nat} {bs : Nat → Int} (hb : ∀ i, 0 ≤ bs i ∧ bs i < 256) {n k : Nat} {l : List Ins} (h : AllAt L bs n k l) (hk : k < L) {j : Ins} (he : oneF (L - k) (fun i => bs (k + i)) = (j, 0)) : ∃ m : Nat, j.len = m ∧ 1 ≤ m ∧ k + m ≤ L ∧ AllAt L bs (n - 1) (k + m) (l ++ [j]) := by
  obtain ⟨m, h1, h2, h3⟩ := one_len (L := L - k) (bs := fun i => bs (k + i)) (fun i => hb (k + i)) (by rw [he])
  rw [he] at h1
  have h1 : j.len = m := h1
  refine ⟨m, h1, h2, by omega, by have := h.left; omega, by omega, ?_, by rw [List.length_append]; have := h.few; simp; omega⟩
  rw [← h.same]
  obtain ⟨q, rfl⟩ : ∃ q, n = q + 1 := ⟨n - 1, by have := h.left; omega⟩
  rw [allS, if_pos hk, he, if_pos rfl]
  show allS L bs (q + 1 - 1) (k + m) _ = allS L bs q (k + j.len.toNat) _
  rw [h1]
  rfl
end
section
open Go.ChangeShapes Go.WideShapes Go.ChangeAt Go.RowKit
theorem ins_guard1 : Try.prog.eqGuardType Try.prog.depth 27 = false := by kernel_rfl
end
section
theorem eight (q : Int) (h0 : 0 ≤ q) (h1 : q < 8) : q = 0 ∨ q = 1 ∨ q = 2 ∨ q = 3 ∨ q = 4 ∨ q = 5 ∨ q = 6 ∨ q = 7 := by omega
end
end Go.Proofs.Ytlnahkkemjgjbaa
