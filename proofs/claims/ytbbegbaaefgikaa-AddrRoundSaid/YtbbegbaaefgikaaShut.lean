/- The last step of a statement whose arguments are plain numbers, bools, flags: what came in reads as it did, whatever new memory the call made. -/
import Derived.Test.YtbbegbaaefgikaaRows
import Derived.Test.YtbbegbaaefgikaaPure1
import Derived.ProofKit
import Derived.OpenShut
import Derived.ChangeSame
import Derived.ChangeArms
namespace Go.Proofs.Ytbbegbaaefgikaa
set_option maxRecDepth 100000
open Go.ChangeShapes Go.WideShapes Go.ChangeAt Go.RowKit

section
variable {H : Type} {enc : TypeId × Value → H} {P : Program}
/-- Arguments without memory behind them; new memory is nobody's business. -/
theorem post_plain {f : Func} {s : ChangeSpec} {apart fresh handsOn again : Bool} {W W' : World} {args : Array Value} {v : Value} {ds gs : List (DataW H)}
    (hW : DataW.Whole enc P f.params.toList s.vars apart W args.toList ds gs []) (hb : Below W.heap.size W W')
    (hargs : ∀ sp : Nat → Bool, DataW.TrodAll enc P W' 0 sp true f.params.toList args.toList (s.fn H (ds ++ gs)).args [])
    (hvars : ∀ sp : Nat → Bool, DataW.TrodVars enc P W' sp s.vars (s.fn H (ds ++ gs)).vars [])
    (hres : ∀ (b : Nat) (sp : Nat → Bool) (hd : Bool), DataW.TrodAll enc P W' b sp hd f.resultTypes.toList (v.resultList f.resultTypes.size) (s.fn H (ds ++ gs)).results [])
    (hok : ∀ (j : Nat) (t : TypeId) (r : Value), f.resultTypes[j]? = some t → (v.resultList f.resultTypes.size)[j]? = some r → Value.okWide P W' .any 0 t r) :
    s.post enc P f apart fresh handsOn again W args v W' := by
  refine ⟨ds, gs, [], [], [], [], hW, hres _ _ _, hargs _, hvars _, hb.frame _, fun _ => ?_⟩
  have hA := trodAll_append (hargs fun _ => true) (hres 0 (fun _ => true) true)
  refine ⟨hok, _, _, [] ++ [], ⟨[] ++ [], [], hA, hvars fun _ => true, rfl, ?_, ?_⟩, ?_⟩
  · intro b off hp; cases hp
  · intro _; exact List.nodup_nil
  · intro p hp; cases hp
end

theorem flags_cells : Try.prog.cellsOf 25 = 6 := by kernel_rfl
theorem bool_cells : Try.prog.cellsOf 4 = 1 := by kernel_rfl
section
variable {H : Type} {enc : TypeId × Value → H} {w : World} {base : Nat} {spare : Nat → Bool} {held : Bool}
theorem shut_flags (c p z s o d : Bool) :
    DataW.Trod enc Try.prog w base spare held 25 (.agg #[.bool c, .bool p, .bool z, .bool s, .bool o, .bool d]) (.agg [.lit (.bool c), .lit (.bool p), .lit (.bool z), .lit (.bool s), .lit (.bool o), .lit (.bool d)]) [] :=
  ⟨3, by simp [DataW.trod, Value.cells, Try.underlying25, Try.underlying4, flags_cells, bool_cells]⟩
theorem open_flags {r : Reach} {b0 : Nat} {v : Value} {x : DataW H} {ps : List MemPlace} (hv : Value.okWide Try.prog w r b0 25 v) (h : DataW.Trod enc Try.prog w base spare held 25 v x ps) :
    ∃ c p z s o d : Bool, v = .agg #[.bool c, .bool p, .bool z, .bool s, .bool o, .bool d] ∧ x = .agg [.lit (.bool c), .lit (.bool p), .lit (.bool z), .lit (.bool s), .lit (.bool o), .lit (.bool d)] ∧ ps = [] := by
  obtain ⟨cs, rfl, hsz⟩ := okWide_struct Try.underlying25 hv
  obtain ⟨fuel, hf⟩ := h
  obtain ⟨xs, n, _, hx, _, hlen, hg⟩ := DataW.trod_struct Try.underlying25 hf
  obtain ⟨l⟩ := cs
  match l, hsz.trans flags_cells, xs, hlen with
  | [c0, c1, c2, c3, c4, c5], _, [y0, y1, y2, y3, y4, y5], _ =>
    have g0 := hg 0 _ rfl
    have g1 := hg 1 _ rfl
    have g2 := hg 2 _ rfl
    have g3 := hg 3 _ rfl
    have g4 := hg 4 _ rfl
    have g5 := hg 5 _ rfl
    simp [Value.cells, bool_cells] at g0 g1 g2 g3 g4 g5
    obtain ⟨c, e0, rfl⟩ := DataW.trod_bool Try.underlying4 g0
    obtain ⟨p, e1, rfl⟩ := DataW.trod_bool Try.underlying4 g1
    obtain ⟨z, e2, rfl⟩ := DataW.trod_bool Try.underlying4 g2
    obtain ⟨s, e3, rfl⟩ := DataW.trod_bool Try.underlying4 g3
    obtain ⟨o, e4, rfl⟩ := DataW.trod_bool Try.underlying4 g4
    obtain ⟨d, e5, rfl⟩ := DataW.trod_bool Try.underlying4 g5
    injection e0 with e0 _; injection e1 with e1 _; injection e2 with e2 _; injection e3 with e3 _; injection e4 with e4 _; injection e5 with e5 _
    subst e0; subst e1; subst e2; subst e3; subst e4; subst e5
    simp only [Prod.mk.injEq] at hx
    exact ⟨c, p, z, s, o, d, rfl, by simpa using hx.1, by simpa using hx.2⟩
end
end Go.Proofs.Ytbbegbaaefgikaa
