/- Any script of bytes comes to just the document's memory, round its end too: for every script. -/
import Derived.Test.YtglcbhfkoigedaaPlaysW
import Derived.Deep.Slices
namespace Go.Proofs.Ytglcbhfkoigedaa
open Go.ChangeShapes Go.WideShapes Go.ChangeAt Go.RowKit

theorem slc_of_trod {H : Type} {enc : TypeId × Value → H} {P : Program} {w : World} {t e : TypeId} {k : IntKind} {v : Value} {fuel : Nat} {x : DataW H × List MemPlace} (ht : P.underlying t = some (.slice e)) (he : P.underlying e = some (.int k)) (hc : P.cellsOf e = 1)
    (h : DataW.trod enc P w 0 (fun _ => true) true fuel t [v] = some x) : ∃ (L : Nat) (bs : Nat → Int), Slc k w v L bs ∧ (∀ i, (Lit.int k (bs i)).wf = true) ∧ L ≤ maxLen := by
  have h0 : ∀ q : IntKind, (Lit.int q 0).wf = true := fun q => by cases q <;> decide
  rcases open_ints ht he hc h with ⟨hcs, _⟩ | ⟨ad, len, cap, zs, hcs, _, hl, hm, hz, _, hcell, hwf⟩
  · injection hcs with hcs _
    exact ⟨0, fun _ => 0, .inl ⟨hcs, rfl⟩, fun _ => h0 _, Nat.zero_le _⟩
  · injection hcs with hcs _
    rw [if_pos rfl] at hz
    refine ⟨len, fun i => zs.getD i 0, .inr ⟨ad, cap, hcs, hl, fun i hi => hcell i (by omega)⟩, fun i => ?_, Nat.le_trans hl hm⟩
    by_cases hi : i < zs.length
    · simp only [List.getD, List.getElem?_eq_getElem hi, Option.getD_some]; exact hwf _ (List.getElem_mem hi)
    · simp only [List.getD, List.getElem?_eq_none (Nat.le_of_not_lt hi), Option.getD_none]; exact h0 _
theorem act_cells : Try.prog.cellsOf 32 = 4 := by kernel_rfl
theorem act_u8 : Try.prog.cellsOf 5 = 1 := by kernel_rfl
theorem act_u32 : Try.prog.cellsOf 29 = 1 := by kernel_rfl
theorem act_int : Try.prog.cellsOf 3 = 1 := by kernel_rfl
theorem act_bytes : Try.prog.cellsOf 30 = 1 := by kernel_rfl
theorem wf_range {k : IntKind} {a : Int} (h : (Lit.int k a).wf = true) : k.min ≤ a ∧ a ≤ k.max := by
  simpa only [Lit.wf, Bool.and_eq_true, decide_eq_true_eq] using h
/-- A script that was handed in. -/
theorem open_acts {H : Type} {enc : TypeId × Value → H} {w : World} {r : Reach} {b0 : Nat} {v : Value} {d : DataW H} {ps : List MemPlace} (hv : Value.okWide Try.prog w r b0 22 v) (h : DataW.Trod enc Try.prog w 0 (fun _ => true) true 22 v d ps) :
    ∃ (A : Option Addr) (L cap : Nat), v = .slice A L cap ∧ ActsOk w A L ∧ L ≤ maxLen := by
  obtain ⟨a, len, cap, rfl⟩ := okWide_slice Try.underlying22 hv
  obtain ⟨fuel, hf⟩ := h
  rcases Go.Deep.open_slice Try.underlying22 hf with ⟨hcs, _⟩ | ⟨ad, len', cap', m, n, D, Pl, hcs, _, hl, hm, hmm, _, hi⟩
  · simp [Value.cells] at hcs
    obtain ⟨rfl, rfl, rfl⟩ := hcs
    exact ⟨none, 0, 0, rfl, fun i hi => by omega, Nat.zero_le _⟩
  · simp [Value.cells] at hcs
    obtain ⟨rfl, rfl, rfl⟩ := hcs
    refine ⟨some ad, len, cap, rfl, fun i hil => ?_, Nat.le_trans hl hm⟩
    rw [if_pos rfl] at hmm
    obtain ⟨cs', hc, ht⟩ := hi i (by omega)
    rw [act_cells] at hc
    obtain ⟨_, hcl, hat⟩ := World.cells?_some hc
    obtain ⟨xs, n', _, _, _, hlen, hg⟩ := DataW.trod_struct Try.underlying32 ht
    match cs', hcl, xs, hlen with
    | [c0, c1, c2, c3], _, [y0, y1, y2, y3], _ =>
      have g0 := hg 0 _ rfl
      have g1 := hg 1 _ rfl
      have g2 := hg 2 _ rfl
      have g3 := hg 3 _ rfl
      simp [act_u8, act_u32, act_int, act_bytes] at g0 g1 g2 g3
      obtain ⟨wh, e0, _, f0⟩ := DataW.trod_int Try.underlying5 g0
      obtain ⟨at_, e1, _, f1⟩ := DataW.trod_int Try.underlying29 g1
      obtain ⟨nn, e2, _, f2⟩ := DataW.trod_int Try.underlying3 g2
      obtain ⟨bl, bb, hs, hw, hbl⟩ := slc_of_trod Try.underlying30 Try.underlying5 act_u8 g3
      injection e0 with e0 _; injection e1 with e1 _; injection e2 with e2 _
      subst e0; subst e1; subst e2
      have k0 := hat 0 (by decide)
      have k1 := hat 1 (by decide)
      have k2 := hat 2 (by decide)
      have k3 := hat 3 (by decide)
      have q0 := wf_range f0
      have q1 := wf_range f1
      have q2 := wf_range f2
      have m0 : IntKind.u8.min = 0 ∧ IntKind.u8.max = 255 ∧ IntKind.u32.min = 0 ∧ IntKind.u32.max = 4294967295 ∧ IntKind.i64.min = -9223372036854775808 ∧ IntKind.i64.max = 9223372036854775807 := by decide
      have ha : ∀ j, (ad.add (i * 4)).add j = ad.add (i * 4 + j) := fun j => by
        unfold Addr.add
        by_cases h1 : i * 4 = 0 <;> by_cases h2 : j = 0 <;> simp_all [Nat.add_assoc]
      rw [ha] at k0 k1 k2 k3
      refine ⟨ad, wh, at_, nn, c3, bl, bb, rfl, ?_, k0, k1, k2, k3, hs, hbl, by omega, by omega, by omega, fun j => ?_⟩
      · have := cell_lt k0
        rw [add_block] at this
        exact this
      · have := wf_range (hw j)
        omega

theorem memPlays_own : ownKnob Try.prog.godebug = none := by kernel_rfl
set_option maxRecDepth 100000 in
theorem memPlays_lifted (os : Os) (started : os.Started) (H : Type) (enc : TypeId × Value → H) :
    ReturnsInHanded {} Try.checked os 3 .any (Rows.memPlaysSpec.pre6 enc Try.prog Try.f3 Rows.memPlaysRow.domain false) (Rows.memPlaysSpec.post enc Try.prog Try.f3 false true false false) := by
  refine returnsInHanded_of_change (C := Try.checked) memPlays_own started (by kernel_rfl) Try.func3
    (ChangeSpec.witness6 (enc := enc) (C := Try.checked) false ⟨#[], #[.slice none 0 0], []⟩ 8 (by kernel_rfl) (by kernel_rfl) (by kernel_rfl) (by kernel_rfl)) ?_
  intro W base args ds gs before hval0 hW hcnd _
  have hval : ∀ (j : Nat) t v, Try.f3.params[j]? = some t → args[j]? = some v → Value.okWide Try.prog W .any base t v := hval0
  have hW' := hW
  obtain ⟨p, q, hA0, hV, rfl, hfz, hnd⟩ := hW
  have hA : DataW.TrodAll enc Try.prog W 0 (fun _ => true) true Try.f3.params.toList args.toList ds p := hA0
  rw [Try.params3] at hA hval
  obtain ⟨v0, vs0, d0, ds0, p0, q0, hargs, rfl, rfl, h0, r0⟩ := trodAll_cons hA
  obtain ⟨rfl, rfl, rfl⟩ := trodAll_nil r0
  obtain rfl : args = #[v0] := by cases args; simp_all
  obtain ⟨rfl, rfl⟩ := trodVars_none hV
  obtain ⟨A0, L0, cap0, rfl, hs0, hL0⟩ := open_acts (hval 0 22 v0 rfl rfl) h0
  clear hA0 hval0
  simp only [List.append_nil] at hW'
  refine (memplays_walk A0 L0 cap0 W hs0 hL0).mono fun e W' ⟨he, hg⟩ => ?_
  subst he
  exact ⟨_, rfl, post_mem hW' rfl (by kernel_rfl) (by kernel_rfl) hg rfl rfl
    (fun _ _ _ => (trodAll_cons_mk (shut_bool Try.underlying4 _) trodAll_mk0)) (ok_one (by kernel_rfl) rfl (okWide_bool_mk Try.underlying4 _))⟩

theorem memPlays_holds : Rows.MemPlaysSaid :=
  OpenClaim.holds_of_wide 3 Try.f3 rfl rfl rfl rfl rfl rfl rfl ⟨rfl, rfl, rfl, rfl, rfl⟩ rfl rfl rfl rfl rfl (by kernel_rfl) Try.func3 (by kernel_rfl)
    (of_decide_eq_true (by kernel_rfl)) (by unfold Func.isWrapper; first | (rw [if_pos (by decide +kernel)]; kernel_rfl) | (rw [if_neg (by decide +kernel)]; exact ⟨rfl, rfl⟩))
    (fun os started H enc _ => memPlays_lifted os started H enc)
#print axioms memPlays_holds
end Go.Proofs.Ytglcbhfkoigedaa
