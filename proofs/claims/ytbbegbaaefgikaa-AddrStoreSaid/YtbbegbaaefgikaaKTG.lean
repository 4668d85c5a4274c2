import Derived.Orders
namespace Go.Proofs.Ytbbegbaaefgikaa
open Go
set_option maxRecDepth 100000
def got (ops : Array Oper) (a : Act) (i : Nat) : Value :=
  match (ops[i]?).bind (·.dst) with
  | some d => a.tmps.getD d undef
  | none => undef
structure Mid {γ : Type} (ops : Array Oper) (md : Region.Mode) (a0 : Act) (Inv : World → γ → Prop) (p : Nat → (Nat → Value) → World → γ → Prop) (listed : Array Bool) (a : Act) (w : World) (g : γ) : Prop where
  len : listed.size = ops.size
  size : a.tmps.size = a0.tmps.size
  defers : a.defers = a0.defers
  base : ∀ t, (∀ (i : Nat) (o : Oper), ops[i]? = some o → o.dst ≠ some t) → a.tmps.getD t undef = a0.tmps.getD t undef
  inv : Inv w g
  closed : ∀ (j : Nat) (o : Oper), ops[j]? = some o → listed.getD j false = true → ∀ e ∈ o.after, Region.binds md e = true → listed.getD e.on false = true
  done : ∀ i, listed.getD i false = true → p i (got ops a) w g
theorem put_size (a : Act) (d : Option Tmp) (v : Value) : (a.put d v).tmps.size = a.tmps.size := by cases d <;> simp [Act.put]
theorem put_defers (a : Act) (d : Option Tmp) (v : Value) : (a.put d v).defers = a.defers := by cases d <;> rfl
theorem put_other (a : Act) (d : Option Tmp) (v : Value) (t : Nat) (h : d ≠ some t) : (a.put d v).tmps.getD t undef = a.tmps.getD t undef := by
  cases d with
  | none => rfl
  | some d =>
    have hne : d ≠ t := fun e => h (by rw [e])
    show (a.tmps.setIfInBounds d v).getD t undef = _
    simp [Array.getD_eq_getD_getElem?, hne]
theorem put_same (a : Act) (d : Tmp) (v : Value) (h : d < a.tmps.size) : (a.put (some d) v).tmps.getD d undef = v := by
  show (a.tmps.setIfInBounds d v).getD d undef = _
  simp [Array.getD_eq_getD_getElem?, h]
theorem countP_less {q q' : Nat → Bool} (h : ∀ j, q' j = true → q j = true) {i : Nat} (h1 : q i = true) (h2 : q' i = false) : ∀ l : List Nat, i ∈ l → l.countP q' < l.countP q
  | [], hi => by cases hi
  | x :: l, hi => by
    rw [List.countP_cons, List.countP_cons]
    have hle : l.countP q' ≤ l.countP q := List.countP_mono_left fun j _ hj => h j hj
    by_cases e : x = i
    · subst e
      rw [h1, h2]
      simp
      omega
    · have := countP_less h h1 h2 l ((List.mem_cons.1 hi).resolve_left (fun h => e h.symm))
      cases hx : q' x
      · simp; omega
      · rw [h x hx]; simp; omega
section
variable {P : Program} {ops : Array Oper} {Q : Exit → Act → World → Prop} {md : Region.Mode} {a0 : Act} {γ : Type} {Inv : World → γ → Prop} {p : Nat → (Nat → Value) → World → γ → Prop} {G : World → γ → World → γ → Prop} {look : Nat → List Nat}
def laid (ops : Array Oper) (f : Nat → Value) (a : Act) : Nat → Act
  | 0 => a
  | n + 1 => (laid ops f a n).put ((ops[n]?).bind (·.dst)) (f n)
theorem laid_size (f : Nat → Value) (a : Act) : ∀ n, (laid ops f a n).tmps.size = a.tmps.size
  | 0 => rfl
  | n + 1 => by unfold laid; rw [put_size, laid_size f a n]
theorem laid_defers (f : Nat → Value) (a : Act) : ∀ n, (laid ops f a n).defers = a.defers
  | 0 => rfl
  | n + 1 => by unfold laid; rw [put_defers, laid_defers f a n]
theorem laid_at {a b : Act} (hsz : ∀ (i : Nat) (o : Oper) (t : Tmp), ops[i]? = some o → o.dst = some t → t < a.tmps.size) (t : Nat) : ∀ n, (∃ i, i < n ∧ (ops[i]?).bind (·.dst) = some t) ∧ (laid ops (got ops b) a n).tmps.getD t undef = b.tmps.getD t undef ∨ (∀ i, i < n → (ops[i]?).bind (·.dst) ≠ some t) ∧ (laid ops (got ops b) a n).tmps.getD t undef = a.tmps.getD t undef
  | 0 => .inr ⟨fun i h => by omega, rfl⟩
  | n + 1 => by
    unfold laid
    by_cases h : (ops[n]?).bind (·.dst) = some t
    · refine .inl ⟨⟨n, by omega, h⟩, ?_⟩
      obtain ⟨o, ho, hd⟩ : ∃ o, ops[n]? = some o ∧ o.dst = some t := by
        cases hn : ops[n]? with
        | none => rw [hn] at h; cases h
        | some o => rw [hn] at h; exact ⟨o, rfl, h⟩
      rw [h, put_same _ t _ (by rw [laid_size]; exact hsz n o t ho hd)]
      unfold got
      rw [h]
    · rw [put_other _ _ _ t h]
      rcases laid_at hsz t n with ⟨⟨i, hi, hd⟩, he⟩ | ⟨hn, he⟩
      · exact .inl ⟨⟨i, by omega, hd⟩, he⟩
      · exact .inr ⟨fun i hi => by
          by_cases e : i = n
          · subst e; exact h
          · exact hn i (by omega), he⟩
theorem laid_all {a b : Act} (hsz : ∀ (i : Nat) (o : Oper) (t : Tmp), ops[i]? = some o → o.dst = some t → t < a.tmps.size) (h1 : b.tmps.size = a.tmps.size) (h2 : b.defers = a.defers) (h3 : ∀ t, (∀ (i : Nat) (o : Oper), ops[i]? = some o → o.dst ≠ some t) → b.tmps.getD t undef = a.tmps.getD t undef) : b = laid ops (got ops b) a ops.size := by
  have ht : b.tmps = (laid ops (got ops b) a ops.size).tmps := by
    apply Array.ext
    · rw [laid_size, h1]
    · intro t ht1 ht2
      have e1 : b.tmps.getD t undef = b.tmps[t] := by simp [Array.getD_eq_getD_getElem?, Array.getElem?_eq_getElem ht1]
      have e2 : (laid ops (got ops b) a ops.size).tmps.getD t undef = (laid ops (got ops b) a ops.size).tmps[t] := by simp [Array.getD_eq_getD_getElem?, Array.getElem?_eq_getElem ht2]
      rw [← e1, ← e2]
      rcases laid_at (b := b) hsz t ops.size with ⟨_, he⟩ | ⟨hn, he⟩
      · exact he.symm
      · rw [he]
        exact h3 t fun i o ho hd => hn i (Array.getElem?_eq_some_iff.1 ho).1 (by rw [ho]; exact hd)
  obtain ⟨bt, bd⟩ := b
  have hd : (laid ops (got ops ⟨bt, bd⟩) a ops.size).defers = bd := by rw [laid_defers]; exact h2.symm
  generalize laid ops (got ops ⟨bt, bd⟩) a ops.size = c at *
  obtain ⟨ct, cd⟩ := c
  simp only at ht hd
  rw [ht, hd]
def fitDraw (ops : Array Oper) (look : Nat → List Nat) (n : Nat) : Bool :=
  (List.range ops.size).all fun i =>
    match ops[i]? with
    | none => true
    | some o => o.guard.isNone && ((match o.dst with
        | some t => decide (t < n) && (List.range ops.size).all (fun j => j == i || ((ops[j]?).bind (·.dst)) != some t)
        | none => true) && (o.after.all (fun e => !Region.binds .any e || decide (e.on < i)) && (look i).all (fun k => (k == i && o.dst.isSome) || o.after.any (fun e => Region.binds .any e && e.on == k))))
theorem fitDraw_at {look : Nat → List Nat} {n : Nat} (h : fitDraw ops look n = true) {i : Nat} {o : Oper} (ho : ops[i]? = some o) :
    o.guard = none ∧ (∀ t, o.dst = some t → t < n ∧ ∀ (j : Nat) (oj : Oper), ops[j]? = some oj → oj.dst = some t → j = i) ∧ (∀ e ∈ o.after, Region.binds .any e = true → e.on < i) ∧ (∀ k ∈ look i, (k = i ∧ o.dst ≠ none) ∨ ∃ e ∈ o.after, Region.binds .any e = true ∧ e.on = k) := by
  have hi : i < ops.size := (Array.getElem?_eq_some_iff.1 ho).1
  have h1 := List.all_eq_true.1 h i (List.mem_range.2 hi)
  rw [ho] at h1
  simp only [Bool.and_eq_true] at h1
  obtain ⟨g1, g2, g3, g4⟩ := h1
  refine ⟨by simpa using g1, ?_, ?_, ?_⟩
  · intro t ht
    rw [ht] at g2
    simp only [Bool.and_eq_true, decide_eq_true_eq] at g2
    refine ⟨g2.1, fun j oj hj hd => ?_⟩
    have h2 := List.all_eq_true.1 g2.2 j (List.mem_range.2 (Array.getElem?_eq_some_iff.1 hj).1)
    rw [hj] at h2
    simp [hd] at h2
    exact h2
  · intro e he hb
    have := Array.all_eq_true'.1 g3 e he
    rw [hb] at this
    simpa using this
  · intro k hk
    have h2 := List.all_eq_true.1 g4 k hk
    simp only [Bool.or_eq_true, Bool.and_eq_true, beq_iff_eq] at h2
    rcases h2 with ⟨h3, h4⟩ | h3
    · exact .inl ⟨h3, fun e => by rw [e] at h4; cases h4⟩
    · rw [Array.any_eq_true'] at h3
      obtain ⟨e, he, h4⟩ := h3
      simp only [Bool.and_eq_true, beq_iff_eq] at h4
      exact .inr ⟨e, he, h4⟩
def left (nod : Nat → Bool) (f : Nat → Value) (i : Nat) : Value := if nod i then undef else f i
def need (o : Oper) (k : Nat) : Bool := o.after.any fun e => Region.binds .any e && e.on == k
def noDst (ops : Array Oper) (t : Nat) : Bool := (List.range ops.size).all fun i => ((ops[i]?).bind (·.dst)) != some t
theorem noDst_at {t : Nat} (h : noDst ops t = true) (i : Nat) (o : Oper) (ho : ops[i]? = some o) : o.dst ≠ some t := by
  have h1 := List.all_eq_true.1 h i (List.mem_range.2 (Array.getElem?_eq_some_iff.1 ho).1)
  rw [ho] at h1
  simpa using h1
def eyes (nod : Nat → Bool) (par : Nat → Nat) (i : Nat) : List Nat := (if nod i then [] else [i]) ++ if par i = i ∨ nod (par i) = true then [] else [par i]
theorem wp_val {o : Oper} {b : Act} {u u' : World} {v : Value} {K : Act → World → Prop} (h : (execOp b.eval o).run P u = .ok (.value v) u') (hK : K (b.put o.dst v) u') : o.wp P b u K Q := by
  unfold Oper.wp
  rw [h]
  exact hK
theorem wp_call {o : Oper} {b : Act} {u : World} {f : FuncId} {args : Array Value} {K : Act → World → Prop} (h : (execOp b.eval o).run P u = .ok (.enter f args) u) (hc : Calls P f args u fun e u' => ∃ v, e = .returned v ∧ K (b.put o.dst v) u') : o.wp P b u K Q := by
  unfold Oper.wp
  rw [h, Oper.upon_enter]
  refine hc.mono ?_
  rintro e u' ⟨v, rfl, hK⟩
  exact hK
end
set_option maxRecDepth 100000
section
variable {P : Program} {ops : Array Oper} {Q : Exit → Act → World → Prop} {md : Region.Mode} {a0 : Act} {Inv : World → Prop} {p : Nat → (Nat → Value) → World → Prop} {G : World → World → Prop} {look : Nat → List Nat}
def coverB (ops : Array Oper) (k : Nat) : Bool := (List.range k).all fun j => (List.range (k + 1)).any fun i => decide (j < i) && (match ops[i]? with | some o => need o j | none => false)
theorem coverB_at {k : Nat} (h : coverB ops k = true) (j : Nat) (hj : j < k) : ∃ i o, j < i ∧ i ≤ k ∧ ops[i]? = some o ∧ need o j = true := by
  have h1 := List.all_eq_true.1 h j (List.mem_range.2 hj)
  rw [List.any_eq_true] at h1
  obtain ⟨i, hi, h2⟩ := h1
  simp only [Bool.and_eq_true, decide_eq_true_eq] at h2
  cases ho : ops[i]? with
  | none => rw [ho] at h2; exact absurd h2.2 (by simp)
  | some o =>
    rw [ho] at h2
    exact ⟨i, o, h2.1, by have := List.mem_range.1 hi; omega, ho, h2.2⟩
theorem need_at {o : Oper} {j : Nat} (h : need o j = true) : ∃ e ∈ o.after, Region.binds .any e = true ∧ e.on = j := by
  unfold need at h
  rw [Array.any_eq_true'] at h
  obtain ⟨e, he, h4⟩ := h
  simp only [Bool.and_eq_true, beq_iff_eq] at h4
  exact ⟨e, he, h4⟩
theorem wpAny_done (listed : Array Bool) (a : Act) (w : World) (h : ∀ i, i < ops.size → listed.getD i false = true) (hl : listed.size = ops.size) (hQ : Q .normal a w) : ∀ fuel, wpAny P .any ops Q fuel listed a w := by
  have hr : Region.ready .any ops listed = [] := by
    cases hr : Region.ready .any ops listed with
    | nil => rfl
    | cons i l =>
      exfalso
      have hi : i ∈ Region.ready .any ops listed := by rw [hr]; exact List.mem_cons_self
      obtain ⟨hu, o, ho, _⟩ := mem_ready.1 hi
      have hio : i < ops.size := (Array.getElem?_eq_some_iff.1 ho).1
      have hil : i < listed.size := by rw [hl]; exact hio
      have hu' : listed.getD i false = false := by simpa [Array.getD_eq_getD_getElem?, Array.getElem?_eq_getElem hil] using hu
      rw [h i hio] at hu'
      cases hu'
  intro fuel
  cases fuel with
  | zero => exact ⟨hr, hQ⟩
  | succ fuel => exact ⟨fun _ => hQ, fun i hi => by rw [hr] at hi; cases hi⟩
theorem wpAny_tail (k : Nat) (ok : Oper) (hok : ops[k]? = some ok) (hk1 : ops.size = k + 1) (hcov : coverB ops k = true)
    (hg : ∀ (i : Nat) (o : Oper), ops[i]? = some o → o.guard = none)
    (hd : ∀ (i j : Nat) (oi oj : Oper) (t : Tmp), ops[i]? = some oi → ops[j]? = some oj → oi.dst = some t → oj.dst = some t → i = j)
    (hsz : ∀ (i : Nat) (o : Oper) (t : Tmp), ops[i]? = some o → o.dst = some t → t < a0.tmps.size)
    (hlt : ∀ (i : Nat) (o : Oper), ops[i]? = some o → ∀ e ∈ o.after, Region.binds .any e = true → e.on < i)
    (hlook : ∀ (i : Nat) (o : Oper) (k : Nat), ops[i]? = some o → k ∈ look i → (k = i ∧ o.dst ≠ none) ∨ ∃ e ∈ o.after, Region.binds .any e = true ∧ e.on = k)
    (hp : ∀ i f f' w w', p i f w → (∀ k ∈ look i, f k = f' k) → G w w' → p i f' w') (hG : ∀ w, G w w)
    (step : ∀ (i : Nat) (o : Oper) (a : Act) (w : World), i < k → ops[i]? = some o → Inv w → a.tmps.size = a0.tmps.size → (∀ t, (∀ (i : Nat) (o : Oper), ops[i]? = some o → o.dst ≠ some t) → a.tmps.getD t undef = a0.tmps.getD t undef) →
      (∀ e ∈ o.after, Region.binds .any e = true → p e.on (got ops a) w) →
      o.wp P a w (fun a' w' => ∃ v, a' = a.put o.dst v ∧ Inv w' ∧ G w w' ∧ p i (fun k => if k = i then v else got ops a k) w') Q)
    (last : ∀ a w, a.tmps.size = a0.tmps.size → a.defers = a0.defers → (∀ t, (∀ (i : Nat) (o : Oper), ops[i]? = some o → o.dst ≠ some t) → a.tmps.getD t undef = a0.tmps.getD t undef) → Inv w → (∀ i, i < k → p i (got ops a) w) → ok.wp P a w (fun a' w' => Q .normal a' w') Q) :
    ∀ fuel listed a w, listed.getD k false = false → ((List.range ops.size).countP fun i => !listed.getD i false) ≤ fuel → Mid ops .any a0 (fun w (_ : Unit) => Inv w) (fun i f w _ => p i f w) listed a w () → wpAny P .any ops Q fuel listed a w := by
  have hkk : k < ops.size := by omega
  have hdown : ∀ listed : Array Bool, (∀ (j : Nat) (o : Oper), ops[j]? = some o → listed.getD j false = true → ∀ e ∈ o.after, Region.binds .any e = true → listed.getD e.on false = true) → (∀ e ∈ ok.after, Region.binds .any e = true → listed.getD e.on false = true) → ∀ n j, n + j + 1 = k → listed.getD j false = true := by
    intro listed hc hd n
    induction n using Nat.strongRecOn with
    | ind n ih =>
      intro j hj
      obtain ⟨i, o, hji, hik, ho, hn⟩ := coverB_at hcov j (by omega)
      obtain ⟨e, he, hb, hon⟩ := need_at hn
      rw [← hon]
      by_cases hi : i = k
      · subst hi
        rw [hok] at ho; cases ho
        exact hd e he hb
      · exact hc i o ho (ih (k - 1 - i) (by omega) i (by omega)) e he hb
  intro fuel
  induction fuel with
  | zero =>
    intro listed a w hku hc m
    have h0 : ((List.range ops.size).countP fun i => !listed.getD i false) = 0 := by omega
    rw [List.countP_eq_zero] at h0
    have := h0 k (List.mem_range.2 hkk)
    rw [hku] at this
    simp at this
  | succ fuel ih =>
    intro listed a w hku hc m
    refine ⟨fun hr => ?_, fun i hi => ?_⟩
    · exfalso
      have hall : ∀ i, i < ops.size → listed.getD i false = true := by
        intro i
        induction i using Nat.strongRecOn with
        | ind i ih =>
          intro hi
          cases hb : listed.getD i false with
          | true => rfl
          | false =>
            exfalso
            have ho : ops[i]? = some ops[i] := Array.getElem?_eq_getElem hi
            have : i ∈ Region.ready .any ops listed := mem_ready.2 ⟨by
              have hil : i < listed.size := by rw [m.len]; exact hi
              simpa [Array.getD_eq_getD_getElem?, Array.getElem?_eq_getElem hil] using hb, ops[i], ho, fun e he hbi => ih e.on (hlt i _ ho e he hbi) (by have := hlt i _ ho e he hbi; omega)⟩
            rw [hr] at this
            cases this
      have := hall k hkk
      rw [hku] at this
      cases this
    obtain ⟨hu, o, ho, hdep⟩ := mem_ready.1 hi
    have hio : i < ops.size := (Array.getElem?_eq_some_iff.1 ho).1
    have hil : i < listed.size := by rw [m.len]; exact hio
    have hu' : listed.getD i false = false := by simpa [Array.getD_eq_getD_getElem?, Array.getElem?_eq_getElem hil] using hu
    have hset : ∀ j, (listed.setIfInBounds i true).getD j false = if j = i then true else listed.getD j false := fun j => by
      by_cases e : j = i
      · subst e; simp [Array.getD_eq_getD_getElem?, hil]
      · rw [if_neg e]; simp [Array.getD_eq_getD_getElem?, Ne.symm e]
    have hw : Region.wanted o (yielded ops a.tmps) = true := by simp [Region.wanted, hg i o ho]
    unfold wpOp
    simp only [ho, hw, if_true]
    by_cases hik : i = k
    · subst hik
      rw [hok] at ho; cases ho
      have hj : ∀ j, j < i → listed.getD j false = true := fun j hj => hdown listed m.closed hdep (i - 1 - j) j (by omega)
      have hs := last a w m.size m.defers m.base m.inv (fun j hjk => m.done j (hj j hjk))
      refine .inl (Oper.wp_mono ?_ hs)
      intro a' w' hQ
      refine wpAny_done _ a' w' (fun j hjs => ?_) (by simp [m.len]) hQ fuel
      rw [hset]
      by_cases e : j = i
      · rw [if_pos e]
      · rw [if_neg e]; exact hj j (by omega)
    have hs := step i o a w (by omega) ho m.inv m.size m.base (fun e he hb => m.done e.on (hdep e he hb))
    refine .inl (Oper.wp_mono ?_ hs)
    rintro a' w' ⟨v, rfl, hinv, hgw, hpi⟩
    have hgot : ∀ k, k ≠ i → got ops (a.put o.dst v) k = got ops a k := fun k hk => by
      unfold got
      cases hk2 : (ops[k]?).bind (·.dst) with
      | none => rfl
      | some t =>
        obtain ⟨ok, hok, hkd⟩ : ∃ ok, ops[k]? = some ok ∧ ok.dst = some t := by
          cases h : ops[k]? with
          | none => rw [h] at hk2; cases hk2
          | some ok => rw [h] at hk2; exact ⟨ok, rfl, hk2⟩
        exact put_other a o.dst v t (fun h => hk (hd k i ok o t hok ho hkd h))
    refine ih _ _ _ (by rw [hset, if_neg (fun e => hik e.symm)]; exact hku) ?_ ⟨by simp [m.len], by rw [put_size, m.size], by rw [put_defers, m.defers], fun t ht => by rw [put_other a o.dst v t (ht i o ho), m.base t ht], hinv, ?_, ?_⟩
    · have hlt2 : ((List.range ops.size).countP fun j => !(listed.setIfInBounds i true).getD j false) < ((List.range ops.size).countP fun j => !listed.getD j false) := by
        refine countP_less (fun j hj => ?_) (i := i) (by rw [hu']; rfl) (by rw [hset, if_pos rfl]; rfl) _ (List.mem_range.2 hio)
        rw [hset] at hj
        by_cases e : j = i
        · rw [if_pos e] at hj; cases hj
        · rw [if_neg e] at hj; exact hj
      omega
    · intro j oj hoj hj e he hb
      rw [hset] at hj ⊢
      by_cases hei : e.on = i
      · rw [if_pos hei]
      · rw [if_neg hei]
        by_cases hji : j = i
        · subst hji
          rw [ho] at hoj; cases hoj
          exact hdep e he hb
        · rw [if_neg hji] at hj
          exact m.closed j oj hoj hj e he hb
    · intro j hj
      rw [hset] at hj
      by_cases hji : j = i
      · subst hji
        refine hp j _ _ w' w' hpi (fun k hk => ?_) (hG w')
        rcases hlook j o k ho hk with ⟨rfl, hdn⟩ | ⟨e, he, hb, rfl⟩
        · rw [if_pos rfl]
          unfold got
          cases hdd : o.dst with
          | none => exact absurd hdd hdn
          | some t =>
            have : (ops[k]?).bind (·.dst) = some t := by rw [ho]; exact hdd
            rw [this]
            exact (put_same a t v (by rw [m.size]; exact hsz k o t ho hdd)).symm
        · have hne : e.on ≠ j := by have := hlt j o ho e he hb; omega
          rw [if_neg hne, hgot _ hne]
      · rw [if_neg hji] at hj
        refine hp j _ _ w w' (m.done j hj) (fun k hk => ?_) hgw
        have hki : k ≠ i := by
          rcases Nat.lt_or_ge j ops.size with hjo | hjo
          · have hoj : ops[j]? = some ops[j] := Array.getElem?_eq_getElem hjo
            rcases hlook j _ k hoj hk with ⟨rfl, _⟩ | ⟨e, he, hb, rfl⟩
            · exact hji
            · intro h
              have := m.closed j _ hoj hj e he hb
              rw [h, hu'] at this
              cases this
          · have : listed.getD j false = false := by simp [Array.getD_eq_getD_getElem?, Array.getElem?_eq_none (show listed.size ≤ j by rw [m.len]; exact hjo)]
            rw [this] at hj; cases hj
        rw [hgot k hki]
theorem wp_region_valsT (hm : P.follows .mixedOrders = true) {id : Nat} {a : Act} {w : World} (k : Nat) (ok : Oper) (hok : ops[k]? = some ok) (hk1 : ops.size = k + 1) (hcov : coverB ops k = true) (nod : Nat → Bool) (hfit : fitDraw ops (eyes nod fun i => i) a.tmps.size = true)
    (Inv : World → Prop) (G : World → World → Prop) (V : Nat → Value → World → Prop)
    (hp : ∀ i v u u', V i v u → G u u' → V i v u') (hG : ∀ w, G w w) (h0 : Inv { w with drawn := w.drawn + 1 })
    (step : ∀ (i : Nat) (o : Oper) (b : Act) (u : World), i < k → ops[i]? = some o → Inv u → b.tmps.size = a.tmps.size → (∀ t, noDst ops t = true → b.tmps.getD t undef = a.tmps.getD t undef) →
      (∀ j, need o j = true → V j (left nod (got ops b) j) u) →
      o.wp P b u (fun b' u' => ∃ v, b' = b.put o.dst v ∧ Inv u' ∧ G u u' ∧ V i (if nod i then undef else v) u') Q)
    (last : ∀ (f : Nat → Value) u, Inv u → (∀ i, i < k → V i (left nod f i) u) → ok.wp P (laid ops f a ops.size) u (fun b' u' => Q .normal b' u') Q) :
    (Code.region id ops true).wp P Q a w := by
  have hsz : ∀ (i : Nat) (o : Oper) (t : Tmp), ops[i]? = some o → o.dst = some t → t < a.tmps.size := fun _ _ t ho hd => ((fitDraw_at hfit ho).2.1 t hd).1
  refine wp_region_any hm (wpAny_tail (a0 := a) (Inv := Inv) (G := G) (p := fun i f u => V i (left nod f i) u) (look := eyes nod fun i => i) k ok hok hk1 hcov (fun _ _ ho => (fitDraw_at hfit ho).1) (fun _ _ _ _ t hi hj hd he => ((fitDraw_at hfit hj).2.1 t he).2 _ _ hi hd) hsz (fun _ _ ho => (fitDraw_at hfit ho).2.2.1) (fun _ _ k ho hk => (fitDraw_at hfit ho).2.2.2 k hk) ?_ hG ?_ ?_ ops.size _ a _ ?_ ?_ ⟨by simp, rfl, rfl, fun _ _ => rfl, h0, ?_, ?_⟩)
  · intro i f f' u u' h hl hg
    have e : left nod f i = left nod f' i := by
      unfold left
      by_cases hn : nod i = true
      · rw [if_pos hn, if_pos hn]
      · rw [if_neg hn, if_neg hn]
        exact hl i (by unfold eyes; rw [if_neg hn]; simp)
    rw [← e]
    exact hp i _ u u' h hg
  · intro i o b u hik ho hi hs hb hd
    refine Oper.wp_mono ?_ (step i o b u hik ho hi hs (fun t ht => hb t (noDst_at ht)) (fun j hj => by
      obtain ⟨e, he, h4, hon⟩ := need_at hj
      have := hd e he h4
      rwa [hon] at this))
    rintro b' u' ⟨v, h1, h2, h3, h4⟩
    refine ⟨v, h1, h2, h3, ?_⟩
    have e : left nod (fun k => if k = i then v else got ops b k) i = if nod i then undef else v := by
      unfold left
      simp
    rw [e]
    exact h4
  · intro b u h1 h2 h3 h4 h5
    have := last (got ops b) u h4 h5
    rwa [← laid_all hsz h1 h2 h3] at this
  · simp [Array.getD_eq_getD_getElem?, Array.getElem?_replicate]; split <;> rfl
  · exact Nat.le_trans List.countP_le_length (by simp)
  · intro j o _ hj
    have : (Array.replicate ops.size false).getD j false = false := by simp [Array.getD_eq_getD_getElem?, Array.getElem?_replicate]; split <;> rfl
    rw [this] at hj; cases hj
  · intro j hj
    have : (Array.replicate ops.size false).getD j false = false := by simp [Array.getD_eq_getD_getElem?, Array.getElem?_replicate]; split <;> rfl
    rw [this] at hj; cases hj
end
end Go.Proofs.Ytbbegbaaefgikaa
