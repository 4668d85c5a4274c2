/- The names of all registers and of all sizes of memory are those of the document, whatever numbers are asked; the card that ties the library tables listed to the text of the program. -/
import Derived.Test.YtgihiddiceinhaaDoorCards
import Derived.Test.YtgihiddiceinhaaDoorTie
import Derived.ChangeVars
import Derived.JoinedOf
import Derived.RowKitTokens
import Derived.SizedLaws
import Derived.SevenTiedAt
import Derived.Test.YtgihiddiceinhaaDoorKNK12
import Derived.Test.YtgihiddiceinhaaDoorKNTB
import Derived.Test.YtgihiddiceinhaaDoorKNX
namespace Go.Proofs.YtgihiddiceinhaaDoor
open Go.ChangeShapes Go.WideShapes Go.ChangeAt Go.RowKit
def sevO (k r d z : Int) : List Opd := [⟨1, k, 0, 0, 0, 0⟩, ⟨2, k, 0, 0, 0, 0⟩, ⟨5, k, 0, 0, 0, 0⟩, ⟨3, 0, k, -1, 1, d⟩, ⟨3, 0, -1, k, 8, 0⟩, ⟨3, 0, k, r, 2, z⟩, ⟨k, 0, 0, 0, 0, d⟩]
def sevL (l : List Opd) : List Value := l.flatMap opL'
def OpU (o : Opd) : Prop := (0 ≤ o.disp ∧ o.disp < 4294967296) ∧ o.scale < 10
theorem sev_ok (k r d z : Int) (hd : 0 ≤ d ∧ d < 4294967296) (hz : 0 ≤ z ∧ z < 4294967296) : ∀ o ∈ sevO k r d z, OpU o := by
  have h0 : (0 : Int) ≤ 0 ∧ (0 : Int) < 4294967296 := by decide
  intro o ho
  simp only [sevO, List.mem_cons, List.not_mem_nil, or_false] at ho
  rcases ho with rfl | rfl | rfl | rfl | rfl | rfl | rfl
  all_goals first
    | exact ⟨h0, by show (0 : Int) < _; decide⟩
    | exact ⟨hd, by show (1 : Int) < _; decide⟩
    | exact ⟨h0, by show (8 : Int) < _; decide⟩
    | exact ⟨hz, by show (2 : Int) < _; decide⟩
    | exact ⟨hd, by show (0 : Int) < _; decide⟩
theorem sev_at (k r d z : Int) (m : Nat) (hm : m < 7) : ∃ o ∈ sevO k r d z, ((sevL (sevO k r d z)).drop (m * 6)).take 6 = opL' o := by
  rcases (show m = 0 ∨ m = 1 ∨ m = 2 ∨ m = 3 ∨ m = 4 ∨ m = 5 ∨ m = 6 by omega) with rfl | rfl | rfl | rfl | rfl | rfl | rfl
  · exact ⟨_, .head _, rfl⟩
  · exact ⟨_, .tail _ (.head _), rfl⟩
  · exact ⟨_, .tail _ (.tail _ (.head _)), rfl⟩
  · exact ⟨_, .tail _ (.tail _ (.tail _ (.head _))), rfl⟩
  · exact ⟨_, .tail _ (.tail _ (.tail _ (.tail _ (.head _)))), rfl⟩
  · exact ⟨_, .tail _ (.tail _ (.tail _ (.tail _ (.tail _ (.head _))))), rfl⟩
  · exact ⟨_, .tail _ (.tail _ (.tail _ (.tail _ (.tail _ (.tail _ (.head _)))))), rfl⟩
theorem range_in12 {u : World} {B : Nat} {C : Array Value} {T : TypeId} (h : u.heap[B]? = some (.cells C T (0, 0))) (o : Nat) (cs : List Value) (hc : (C.toList.drop o).take cs.length = cs) : u.rangeAt B o cs := fun i v hi => by
  have hl := (List.getElem?_eq_some_iff.1 hi).1
  rw [(cell_block h (o + i)).1]
  rw [← hc] at hi
  simpa [List.getElem?_take, List.getElem?_drop, hl] using hi
def zeroO6 : Array Value := #[.int .i64 0, .int .i64 0, .int .i64 0, .int .i64 0, .int .i64 0, .int .u32 0]
theorem setL_o6 (o : Opd) : setL zeroO6 0 (opL' o) = (opL' o).toArray := by kernel_rfl
theorem stored6 {w Y : World} {o : Opd} {T : TypeId} (hY : Y = (w.alloc (.cells zeroO6 T)).setCells w.heap.size 0 (opL' o)) : Y.rangeAt w.heap.size 0 (opL' o) ∧ Below w.heap.size w Y ∧ w.heap.size < Y.heap.size := by
  have hb : Y.heap[w.heap.size]? = some (.cells (opL' o).toArray T (0, 0)) := by
    have := block_setCells (opL' o) 0 (w.alloc (.cells zeroO6 T)) zeroO6 (heap_new rfl)
    rw [setL_o6] at this
    rw [hY]
    exact this
  refine ⟨range_in12 hb 0 _ rfl, ?_, (Array.getElem?_eq_some_iff.1 hb).1⟩
  rw [hY]
  exact below_setCells (Nat.le_refl _) _ _ _ (below_last (Below.refl _ _) _)
theorem and_15 (d : Int) (d0 : 0 ≤ d) (d1 : d < 4294967296) : ∃ z, bits .and .u32 d 15 = z ∧ 0 ≤ z ∧ z < 4294967296 := by
  refine ⟨_, u32_and d 15 d0 d1 (by decide) (by decide), Int.natCast_nonneg _, ?_⟩
  have h : d.toNat &&& (15 : Int).toNat ≤ d.toNat := Nat.and_le_left
  omega
set_option maxRecDepth 100000
set_option maxHeartbeats 4000000
theorem textregs_walk (r size d : Int) (d0 : 0 ≤ d) (d1 : d < 4294967296) (w : World) (hT : TabZ w) (HK : ∀ w : World, TabZ w → Calls Tryd.prog 5 #[] w fun e w' => e = .returned (.bool true) ∧ Below w.heap.size w w') :
    Calls Tryd.prog 4 #[.int .i64 r, .int .i64 size, .int .u32 d] w fun e w' => e = .returned (.bool true) ∧ Below w.heap.size w w' := by
  have HK := Lib.hid (HK w hT)
  have HT := Lib.hid hT
  clear hT
  obtain ⟨z, hz, z0, z1⟩ := and_15 d d0 d1
  have HZ := Lib.hid (And.intro z0 z1)
  have HD := Lib.hid (And.intro d0 d1)
  have HAND := Lib.hid hz
  obtain ⟨ie, hie, hz', hsz⟩ : ∃ ie, Tryd.prog.info? 27 = some ie ∧ ie.zero = some (.agg zeroO6) ∧ ie.size = 6 := by
    have h : (Tryd.prog.info? 27).map (fun i => (i.zero, i.size)) = some (some (.agg zeroO6), 6) := by kernel_rfl
    cases hi : Tryd.prog.info? 27 with
    | none => rw [hi] at h; cases h
    | some i =>
      rw [hi] at h
      simp only [Option.map_some, Option.some.injEq, Prod.mk.injEq] at h
      exact ⟨i, rfl, h.1, h.2⟩
  have HIE := Lib.hid (And.intro hie (And.intro hz' hsz))
  clear hie hz' hsz hz z0 z1
  go_enter Tryd.func4, Tryd.ntmps4
  go_wp2_with fail
  refine (HK.out).mono ?_
  rintro e w0 ⟨rfl, b0⟩
  have HB0 := Lib.hid b0
  clear b0
  go_wp2_with fail
  go_loopw [7] (fun v7 wr => ∃ n : Nat, n ≤ 10 ∧ v7 = .int .i64 ((n : Int) - 1) ∧ Below w.heap.size w wr) (fun v7 _ => (9 - intOf v7).toNat)
  case atStart => exact ⟨0, by omega, by go_num, HB0.out⟩
  case round =>
    obtain ⟨n, hn, rfl, hb⟩ := hrel
    obtain ⟨wo, hwo⟩ : ∃ wo : World, wo = wr := ⟨_, rfl⟩
    subst hwo
    have HB := Lib.hid hb
    clear hb
    by_cases hlt : n < 10
    · have d2 : decide ((n : Int) - 1 < 9) = true := decide_eq_true (by omega)
      have hz := HAND.out
      obtain ⟨CL, hCL⟩ : ∃ C, C = (sevL (sevO ((n : Int) - 1) r d z)).toArray := ⟨_, rfl⟩
      have HCL := Lib.hid hCL
      clear hCL
      go_wp2_with (refine wpList_buildSlice rfl 28 27 7 _ rfl CL ie (.agg zeroO6) Tryd.underlying28 HIE.out.1 HIE.out.2.1 (by rw [HIE.out.2.2]; decide) (by rw [HIE.out.2.2]; decide) (by rw [HIE.out.2.2, HCL.out]; kernel_rfl) ?_)
      obtain ⟨wA, hwA⟩ : ∃ wA, wA = wo.alloc (.cells CL 27) := ⟨_, rfl⟩
      rw [← hwA]
      have HBA := Lib.hid (show Below w.heap.size w wA by rw [hwA]; exact below_last HB.out _)
      have HROW := Lib.hid (heap_new hwA)
      clear hwA hz
      go_loopw [37] (fun v37 wr => ∃ m : Nat, m ≤ 7 ∧ v37 = .int .i64 m ∧ Below wA.heap.size wA wr) (fun v37 _ => 7 - (intOf v37).toNat)
      case atStart => exact ⟨0, by omega, rfl, Below.refl _ _⟩
      case round =>
        obtain ⟨m, hm, rfl, hbr⟩ := hrel
        have HBR := Lib.hid hbr
        by_cases hlm : m < 7
        · have d7 : decide ((m : Int) < 7) = true := decide_eq_true (by omega)
          obtain ⟨o, hmem, ho⟩ := sev_at ((n : Int) - 1) r d z m hlm
          have HU := Lib.hid (sev_ok ((n : Int) - 1) r d z HD.out HZ.out o hmem)
          have HRO := Lib.hid (range_in12 ((hbr.block _ (Array.getElem?_eq_some_iff.1 HROW.out).1).trans HROW.out) (m * 6) (opL' o) (by rw [HCL.out]; exact ho))
          have HTH := there_alloc_new wr zeroO6 27 6 (by decide)
          unfold zeroO6 at HTH
          have HTH := Lib.hid HTH
          obtain ⟨S, hS⟩ : ∃ S, opdS o size = S := ⟨_, rfl⟩
          have H1 := fun u hu => topd_any o size HU.out.1.1 HU.out.1.2 HU.out.2 u hu
          have H2 := fun u => ropd_any o size HU.out.1.1 HU.out.1.2 (by have := HU.out.2; omega) u
          rw [hS, show opV o = .agg (opL' o).toArray from rfl] at H1 H2
          have H1 := Lib.hid H1
          have H2 := Lib.hid H2
          clear hmem ho hbr hS
          go_wp2_with (first
            | (refine wpList_load_mid rfl 27 (.tmp 39) rfl wo.heap.size (m * 6) rfl (opL' o) _ HRO.out Tryd.underlying27 rfl info_opd1 ?_)
            | (refine store_opd rfl (.tmp 9) (.tmp 40) rfl wr.heap.size rfl o rfl HTH.out ?_; intro Y hY hl; clear hl; obtain ⟨q1, q2, q3⟩ := stored6 hY; have HQ := Lib.hid q1; have HQB := Lib.hid (below_step HBR.out q2); have HQS := Lib.hid q3; clear hY q1 q2 q3))
          have HRB := Lib.hid (show ∀ u, Below Y.heap.size Y u → u.rangeAt wr.heap.size 0 (opL' o) from fun u hu j v hj => (hu.cell (p := ⟨wr.heap.size, 0 + j, none⟩) HQS.out).trans (HQ.out j v hj))
          have HTY := Lib.hid (HT.out.on (HBA.out.trans (HQB.out.mono HBA.out.size)))
          have hne := class_const (C := fun u => Below Y.heap.size Y u) (Below.refl Y.heap.size Y)
          have hsx : ∀ a : Act, a.put none undef = a := fun _ => rfl
          rw [hsx]
          refine wp_region_quietC (fun u => Below Y.heap.size Y u) (by kernel_rfl) (by kernel_rfl) ((Below.refl _ _).drew) ?_
          go_big_quiet_want; refine quietC_load 27 (.tmp 9) wr.heap.size 0 rfl (opL' o) _ HRB.out Tryd.underlying27 rfl info_opd1 ?_; go_big_quiet_op; go_big_quiet_on
          go_big_quiet_want; go_big_quiet_op; go_big_quiet_on
          go_big_quiet_want; refine quietC_call 8 #[.tmp 41, .tmp 42] _ #[.agg (opL' o).toArray, .int .i64 size] (.string (tx S)) (fun u _ => by simp [Act.eval, go_sem]) (fun u hu => (H1.out u (HTY.out.on hu)).mono fun _ _ ⟨h1, h2⟩ => ⟨h1, hu.trans (h2.mono hu.size)⟩) ?_; go_big_quiet_op; go_big_quiet_on
          go_big_quiet_want; refine quietC_load 27 (.tmp 9) wr.heap.size 0 rfl (opL' o) _ HRB.out Tryd.underlying27 rfl info_opd1 ?_; go_big_quiet_op; go_big_quiet_on
          go_big_quiet_want; go_big_quiet_op; go_big_quiet_on
          go_big_quiet_want; refine quietC_call 9 #[.tmp 44, .tmp 45] _ #[.agg (opL' o).toArray, .int .i64 size] (.string (tx S)) (fun u _ => by simp [Act.eval, go_sem]) (fun u hu => (H2.out u).mono fun _ _ ⟨h1, h2⟩ => ⟨h1, hu.trans (h2.mono hu.size)⟩) ?_; go_big_quiet_op; go_big_quiet_on
          go_big_quiet_want; go_big_quiet_op; go_big_quiet_on
          refine wpQuiet_nil ?_
          intro w5 hw5
          have HW5 := Lib.hid (HQB.out.trans (hw5.mono HQB.out.size))
          clear hw5
          go_wp2_with fail
          go_roundw
          case rel => exact ⟨m + 1, by omega, by go_num, HW5.out⟩
          case measure => simp [intOf]; omega
        · have d7 : decide ((m : Int) < 7) = false := decide_eq_false (by omega)
          clear hbr
          go_wp2_with fail
          go_roundw
          case rel => exact ⟨n + 1, by omega, by go_num, below_step HBA.out HBR.out⟩
          case measure => simp [intOf]; omega
    · have d2 : decide ((n : Int) - 1 < 9) = false := decide_eq_false (by omega)
      go_wp2_with fail
      go_returns
      exact ⟨rfl, HB.out⟩
set_option maxRecDepth 512
theorem textregs_all (r size d : Int) (w : World) (hT : TabZ w) (d0 : 0 ≤ d) (d1 : d < 4294967296) : Calls Tryd.prog 4 #[.int .i64 r, .int .i64 size, .int .u32 d] w fun e w' => e = .returned (.bool true) ∧ Below w.heap.size w w' := textregs_walk r size d d0 d1 w hT (fun u hu => known12_any u hu)
theorem textRegs_own : ownKnob Tryd.prog.godebug = none := by kernel_rfl
set_option maxRecDepth 100000
theorem textRegs_lifted (os : Os) (started : os.Started) (H : Type) (enc : TypeId × Value → H) :
    ReturnsInHanded {} Tryd.checked os 4 .any (fun w args => (Rows.textRegsSpec.pre enc Tryd.prog Tryd.f4 [] false w args ∧ laidMet Tryd.prog laid12 w) ∧ sizedMet enc Tryd.prog Tryd.f4 (OpenSpec.ofChange Rows.textRegsSpec) false w args)
      (Rows.textRegsSpec.post enc Tryd.prog Tryd.f4 false true false false) := by
  refine returnsInHanded_of_change_and (C := Tryd.checked) (X := fun w _ => laidMet Tryd.prog laid12 w) (fun _ _ _ hh h => h.of_heap hh) textRegs_own started (by kernel_rfl) Tryd.func4
    (ChangeSpec.witness_at (enc := enc) (C := Tryd.checked) (os := os) (X := fun w _ => laidMet Tryd.prog laid12 w) false (laidWorld12 os) #[.int .i64 0, .int .i64 0, .int .u32 0] 8 rfl (by kernel_rfl) (by kernel_rfl) (by kernel_rfl) (by kernel_rfl) (by kernel_rfl) (laidWorld12_met os _)) ?_
  intro W base args ds gs before hval0 hW _ _ hL _
  have hval : ∀ (j : Nat) t v, Tryd.f4.params[j]? = some t → args[j]? = some v → Value.okWide Tryd.prog W .any base t v := hval0
  have hW' := hW
  obtain ⟨p, q, hA0, hV, rfl, hfz, hnd⟩ := hW
  have hA : DataW.TrodAll enc Tryd.prog W 0 (fun _ => true) true Tryd.f4.params.toList args.toList ds p := hA0
  rw [Tryd.params4] at hA hval
  obtain ⟨v0, vs0, d0, ds0, p0, q0, hargs, rfl, rfl, h0, r0⟩ := trodAll_cons hA
  obtain ⟨v1, vs1, d1, ds1, p1, q1, rfl, rfl, rfl, h1, r1⟩ := trodAll_cons r0
  obtain ⟨v2, vs2, d2, ds2, p2, q2, rfl, rfl, rfl, h2, r2⟩ := trodAll_cons r1
  obtain ⟨rfl, rfl, rfl⟩ := trodAll_nil r2
  obtain rfl : args = #[v0, v1, v2] := by cases args; simp_all
  obtain ⟨rfl, rfl⟩ := trodVars_none hV
  obtain ⟨a0, rfl, rfl, rfl, w0⟩ := open_int Tryd.underlying3 (hval 0 3 v0 rfl rfl) h0
  obtain ⟨a1, rfl, rfl, rfl, w1⟩ := open_int Tryd.underlying3 (hval 1 3 v1 rfl rfl) h1
  obtain ⟨a2, rfl, rfl, rfl, w2⟩ := open_int Tryd.underlying25 (hval 2 25 v2 rfl rfl) h2
  clear hA0 hval0
  simp only [List.append_nil] at hW'
  have b2 : 0 ≤ a2 ∧ a2 < 4294967296 := by
    have h := w2
    simp only [Lit.wf, Bool.and_eq_true, decide_eq_true_eq] at h
    have e1 : IntKind.u32.min = 0 := by decide
    have e2 : IntKind.u32.max = 4294967295 := by decide
    omega
  refine (textregs_all a0 a1 a2 W (tabz_of_laid hL) b2.1 b2.2).mono fun e W' ⟨he, hg⟩ => ?_
  subst he
  refine ⟨_, rfl, _, _, _, [], [], [], hW', ?_, ?_, rfl, hg.frame _, fun h => by cases h⟩
  · exact trodAll_mk1 (shut_bool Tryd.underlying4 _)
  · exact (trodAll_cons_mk (shut_int Tryd.underlying3 w0) (trodAll_cons_mk (shut_int Tryd.underlying3 w1) (trodAll_cons_mk (shut_int Tryd.underlying25 w2) trodAll_mk0)))
set_option maxRecDepth 512
theorem textRegs_row : Rows.TextRegsSaid :=
  OpenClaim.holds_of_wide 4 Tryd.f4 rfl rfl rfl rfl rfl rfl rfl ⟨rfl, rfl, rfl, rfl, rfl⟩ rfl rfl rfl rfl rfl (by kernel_rfl) Tryd.func4 (by kernel_rfl)
    (of_decide_eq_true (by kernel_rfl)) (by unfold Func.isWrapper; first | (rw [if_pos (by decide +kernel)]; kernel_rfl) | (rw [if_neg (by decide +kernel)]; exact ⟨rfl, rfl⟩))
    (fun os started H enc _ => textRegs_lifted os started H enc)
theorem textRegs_holds : Rows.TextRegsCardSaid :=
  Claim7.holds_tied_plain_at .later [] [.data, .data, .data] true _ false
    textRegs_row (fun _ h => by cases h) (by kernel_rfl) (fun _ h => by cases h) textRegs_row_tie rfl ⟨rfl, rfl⟩ (by kernel_rfl) rfl
    (fun f fn hf hfn => by
      obtain rfl : f = 4 := Option.some.inj ((show Tryd.prog.funcNamed Rows.textRegsRow.func = some 4 by kernel_rfl).symm.trans hf) |>.symm
      obtain rfl : fn = Tryd.f4 := (Option.some.inj (Tryd.func4.symm.trans hfn)).symm
      refine ⟨by kernel_rfl, fun j t ht => ?_⟩
      have h : (Tryd.f4.params.all fun t => !Tryd.prog.wantsStandIn t) = true := by kernel_rfl
      have := Array.all_eq_true'.1 h t (Array.mem_of_getElem? ht)
      show Tryd.prog.wantsStandIn t = false
      simpa using this)
    (by kernel_rfl)
#print axioms textRegs_holds
end Go.Proofs.YtgihiddiceinhaaDoor
