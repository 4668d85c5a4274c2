/- The names of all operations are those of the document, whatever number is asked; the card that ties the library tables listed to the text of the program. -/
import Derived.Test.YtgihiddiceinhaaDoorCards
import Derived.Test.YtgihiddiceinhaaDoorTie
import Derived.ChangeVars
import Derived.JoinedOf
import Derived.RowKitTokens
import Derived.SizedLaws
import Derived.SevenTiedAt
import Derived.Test.YtgihiddiceinhaaDoorKNK12
import Derived.Test.YtgihiddiceinhaaDoorKNTB
namespace Go.Proofs.YtgihiddiceinhaaDoor
open Go.ChangeShapes Go.WideShapes Go.ChangeAt Go.RowKit
set_option maxRecDepth 100000
set_option maxHeartbeats 4000000
theorem textnames_walk (op : Int) (w : World) (hT : TabZ w) (HK : ∀ w : World, TabZ w → Calls Tryd.prog 5 #[] w fun e w' => e = .returned (.bool true) ∧ Below w.heap.size w w') :
    Calls Tryd.prog 3 #[.int .i64 op] w fun e w' => e = .returned (.bool true) ∧ Below w.heap.size w w' := by
  have HK := Lib.hid (HK w hT)
  clear hT
  go_enter Tryd.func3, Tryd.ntmps3
  go_wp2_with fail
  refine (HK.out).mono ?_
  rintro e w0 ⟨rfl, b0⟩
  have HB0 := Lib.hid b0
  clear b0
  go_wp2_with fail
  go_loopw [3] (fun v3 wr => ∃ n : Nat, n ≤ 67 ∧ v3 = .int .i64 ((n : Int) - 2) ∧ Below w.heap.size w wr) (fun v3 _ => (65 - intOf v3).toNat)
  case atStart => exact ⟨0, by omega, by go_num, HB0.out⟩
  case round =>
    obtain ⟨n, hn, rfl, hb⟩ := hrel
    have HB := Lib.hid hb
    clear hb
    by_cases hlt : n < 67
    · have d1 : decide ((n : Int) - 2 < 65) = true := decide_eq_true (by omega)
      obtain ⟨S, hS⟩ : ∃ S, opN ((n : Int) - 2) = S := ⟨_, rfl⟩
      have H1 := tname_any ((n : Int) - 2)
      have H2 := rtname_any ((n : Int) - 2)
      rw [hS] at H1 H2
      have H1 := Lib.hid H1
      have H2 := Lib.hid H2
      clear hS
      go_wp2_with fail
      ((with_reducible refine (H1.out _).mono ?_); rintro e w1 ⟨rfl, b1⟩)
      have HB1 := Lib.hid (below_step HB.out b1)
      clear b1
      go_wp2_with fail
      ((with_reducible refine (H2.out _).mono ?_); rintro e w2 ⟨rfl, b2⟩)
      have HB2 := Lib.hid (below_step HB1.out b2)
      clear b2
      go_wp2_with fail
      go_roundw
      case rel => exact ⟨n + 1, by omega, by go_num, HB2.out⟩
      case measure => simp [intOf]; omega
    · have d1 : decide ((n : Int) - 2 < 65) = false := decide_eq_false (by omega)
      have H1 := Lib.hid (tname_any op)
      have H2 := Lib.hid (rtname_any op)
      go_wp2_with fail
      refine (H1.out _).mono ?_
      rintro e w1 ⟨rfl, b1⟩
      have HB1 := Lib.hid (below_step HB.out b1)
      clear b1
      go_wp2_with fail
      refine (H2.out _).mono ?_
      rintro e w2 ⟨rfl, b2⟩
      have HB2 := Lib.hid (below_step HB1.out b2)
      clear b2
      go_wp2_with fail
      go_returns
      exact ⟨rfl, HB2.out⟩
set_option maxRecDepth 512
theorem textnames_all (op : Int) (w : World) (hT : TabZ w) : Calls Tryd.prog 3 #[.int .i64 op] w fun e w' => e = .returned (.bool true) ∧ Below w.heap.size w w' := textnames_walk op w hT (fun u hu => known12_any u hu)
theorem textNames_own : ownKnob Tryd.prog.godebug = none := by kernel_rfl
set_option maxRecDepth 100000
theorem textNames_lifted (os : Os) (started : os.Started) (H : Type) (enc : TypeId × Value → H) :
    ReturnsInHanded {} Tryd.checked os 3 .any (fun w args => (Rows.textNamesSpec.pre enc Tryd.prog Tryd.f3 [] false w args ∧ laidMet Tryd.prog laid12 w) ∧ sizedMet enc Tryd.prog Tryd.f3 (OpenSpec.ofChange Rows.textNamesSpec) false w args)
      (Rows.textNamesSpec.post enc Tryd.prog Tryd.f3 false true false false) := by
  refine returnsInHanded_of_change_and (C := Tryd.checked) (X := fun w _ => laidMet Tryd.prog laid12 w) (fun _ _ _ hh h => h.of_heap hh) textNames_own started (by kernel_rfl) Tryd.func3
    (ChangeSpec.witness_at (enc := enc) (C := Tryd.checked) (os := os) (X := fun w _ => laidMet Tryd.prog laid12 w) false (laidWorld12 os) #[.int .i64 0] 8 rfl (by kernel_rfl) (by kernel_rfl) (by kernel_rfl) (by kernel_rfl) (by kernel_rfl) (laidWorld12_met os _)) ?_
  intro W base args ds gs before hval0 hW _ _ hL _
  have hval : ∀ (j : Nat) t v, Tryd.f3.params[j]? = some t → args[j]? = some v → Value.okWide Tryd.prog W .any base t v := hval0
  have hW' := hW
  obtain ⟨p, q, hA0, hV, rfl, hfz, hnd⟩ := hW
  have hA : DataW.TrodAll enc Tryd.prog W 0 (fun _ => true) true Tryd.f3.params.toList args.toList ds p := hA0
  rw [Tryd.params3] at hA hval
  obtain ⟨v0, vs0, d0, ds0, p0, q0, hargs, rfl, rfl, h0, r0⟩ := trodAll_cons hA
  obtain ⟨rfl, rfl, rfl⟩ := trodAll_nil r0
  obtain rfl : args = #[v0] := by cases args; simp_all
  obtain ⟨rfl, rfl⟩ := trodVars_none hV
  obtain ⟨a0, rfl, rfl, rfl, w0⟩ := open_int Tryd.underlying3 (hval 0 3 v0 rfl rfl) h0
  clear hA0 hval0
  simp only [List.append_nil] at hW'
  refine (textnames_all a0 W (tabz_of_laid hL) ).mono fun e W' ⟨he, hg⟩ => ?_
  subst he
  refine ⟨_, rfl, _, _, _, [], [], [], hW', ?_, ?_, rfl, hg.frame _, fun h => by cases h⟩
  · exact trodAll_mk1 (shut_bool Tryd.underlying4 _)
  · exact (trodAll_cons_mk (shut_int Tryd.underlying3 w0) trodAll_mk0)
set_option maxRecDepth 512
theorem textNames_row : Rows.TextNamesSaid :=
  OpenClaim.holds_of_wide 3 Tryd.f3 rfl rfl rfl rfl rfl rfl rfl ⟨rfl, rfl, rfl, rfl, rfl⟩ rfl rfl rfl rfl rfl (by kernel_rfl) Tryd.func3 (by kernel_rfl)
    (of_decide_eq_true (by kernel_rfl)) (by unfold Func.isWrapper; first | (rw [if_pos (by decide +kernel)]; kernel_rfl) | (rw [if_neg (by decide +kernel)]; exact ⟨rfl, rfl⟩))
    (fun os started H enc _ => textNames_lifted os started H enc)
theorem textNames_holds : Rows.TextNamesCardSaid :=
  Claim7.holds_tied_plain_at .later [] [.data, .data, .data] true _ false
    textNames_row (fun _ h => by cases h) (by kernel_rfl) (fun _ h => by cases h) textNames_row_tie rfl ⟨rfl, rfl⟩ (by kernel_rfl) rfl
    (fun f fn hf hfn => by
      obtain rfl : f = 3 := Option.some.inj ((show Tryd.prog.funcNamed Rows.textNamesRow.func = some 3 by kernel_rfl).symm.trans hf) |>.symm
      obtain rfl : fn = Tryd.f3 := (Option.some.inj (Tryd.func3.symm.trans hfn)).symm
      refine ⟨by kernel_rfl, fun j t ht => ?_⟩
      have h : (Tryd.f3.params.all fun t => !Tryd.prog.wantsStandIn t) = true := by kernel_rfl
      have := Array.all_eq_true'.1 h t (Array.mem_of_getElem? ht)
      show Tryd.prog.wantsStandIn t = false
      simpa using this)
    (by kernel_rfl)
#print axioms textNames_holds
end Go.Proofs.YtgihiddiceinhaaDoor
