/- The statements' own first look at instructions.; A region whose order is drawn that only reads and calls, in any class of worlds that its calls keep: one walk serves every order.; Structs that lie in memory over calls.; The last step of a statement whose arguments are plain numbers, bools, flags: what came in reads as it did, whatever new memory the call made.; A guarded operation whose guard is met is one without. -/
import Derived.BigQuiet
import Derived.Deep.QuietTactic
import Derived.Deep.MidRow
import Derived.Test.YtlhfpfiehgcciaaRows
import Derived.ProofKit
import Derived.OpenShut
import Derived.ChangeSame
import Derived.ChangeArms
import Derived.Tactics
import Derived.Test.YtlhfpfiehgcciaaKO
import Derived.Test.YtlhfpfiehgcciaaKTP
namespace Go.Proofs.Ytlhfpfiehgcciaa
open Go.ChangeShapes Go.WideShapes Go.ChangeAt Go.RowKit

/-- an instruction is answered and stored: what is kept -/
theorem ins_kept {w0 w1 : World} (hb : Below w0.heap.size w0 w1) (i : Ins) (B : Nat) (hB : B = w1.heap.size) (Y : World) (hY : Y = (w1.alloc (.cells zeroA 33)).setCells B 0 (insL i)) : Y.rangeAt B 0 (insL i) ∧ Below w0.heap.size w0 Y ∧ B < Y.heap.size ∧ w0.heap.size ≤ B := by
  subst hB hY
  exact ⟨World.rangeAt_setCells_same _ _ _ _ (there_alloc_new w1 zeroA 33 18 (by decide)), below_setCells hb.size _ _ _ (below_last hb _), by rw [setCells_size]; simp, hb.size⟩
theorem range_below {w w' : World} (hb : Below w.heap.size w w') {B o : Nat} {cs : List Value} (h : w.rangeAt B o cs) : w'.rangeAt B o cs := range_but (F := fun _ => False) (But.of_below hb) (fun h => h) h
theorem ins_cells {i : Ins} {B : Nat} {w : World} (h : w.rangeAt B 0 (insL i)) : w.cell? ⟨B, 0, none⟩ = some (.int .i64 i.op) ∧ w.cell? ⟨B, 1, none⟩ = some (.int .i64 i.cond) ∧ w.cell? ⟨B, 2, none⟩ = some (.int .i64 i.size) ∧ w.cell? ⟨B, 14, none⟩ = some (.int .u32 i.b.disp) ∧ w.cell? ⟨B, 16, none⟩ = some (.bool i.rep) ∧ w.cell? ⟨B, 17, none⟩ = some (.int .i64 i.len) :=
  ⟨h 0 _ rfl, h 1 _ rfl, h 2 _ rfl, h 14 _ rfl, h 16 _ rfl, h 17 _ rfl⟩
set_option maxRecDepth 100000 in
set_option maxHeartbeats 4000000 in
theorem known10_any (w : World) : Calls Try.prog 10 #[] w fun e w' => e = .returned (.bool true) ∧ Below w.heap.size w w' := by
  go_enter Try.func10, Try.ntmps10
  go_wp2_with fail
  refine (done_any _ 3 (lst [131, 224, 224]) (lst_ok (by decide)) (by decide) _ (slc_new w _ _ 3 3 _ (Nat.le_refl _) (fun i hi => ?_))).mono ?_
  · match i, hi with
    | 0, _ => rfl
    | 1, _ => rfl
    | 2, _ => rfl
  rintro e w1 ⟨rfl, B1⟩
  rw [known_1]
  unfold insR
  have HB := Lib.hid (below_step (below_last (Below.refl _ w) _) B1)
  clear B1
  have HT := Lib.hid (there_alloc_new w1 zeroA 33 18 (by decide))
  go_wp2_with (refine store_ins rfl (.tmp 1) (.tmp 10) rfl w1.heap.size rfl ⟨5, 0, 4, regO 1 0, numO 4294967264, 0, false, 3⟩ rfl HT.out ?_; intro Y1 hY hl; obtain ⟨k1, k2, k3, k4⟩ := ins_kept HB.out _ _ rfl Y1 hY; have HR1 := Lib.hid k1; have HBY1 := Lib.hid k2; clear hY hl k1 k2 k4)
  refine (done_any _ 2 (lst [15, 11]) (lst_ok (by decide)) (by decide) _ (slc_new Y1 _ _ 2 2 _ (Nat.le_refl _) (fun i hi => ?_))).mono ?_
  · match i, hi with
    | 0, _ => rfl
    | 1, _ => rfl
  rintro e w2 ⟨rfl, B2⟩
  rw [known_2]
  unfold insR
  have HR2 := Lib.hid (range_below (below_step (below_last (Below.refl _ _) _) B2) HR1.out)
  have HB2 := Lib.hid (below_step HBY1.out (below_step (below_last (Below.refl _ _) _) B2))
  have hz2 : w1.heap.size < w2.heap.size := Nat.lt_of_lt_of_le k3 (below_step (below_last (Below.refl _ _) _) B2).size
  clear HB HT HR1 HBY1 B2 k3
  have HT := Lib.hid (there_alloc_new w2 zeroA 33 18 (by decide))
  go_wp2_with (refine store_ins rfl (.tmp 3) (.tmp 15) rfl w2.heap.size rfl zeroI rfl HT.out ?_; intro Y2 hY hl; have HR3 := Lib.hid (show Y2.rangeAt w1.heap.size 0 _ by rw [hY]; exact World.rangeAt_setCells_apart (World.rangeAt_alloc HR2.out _) _ _ _ (.inl (by omega))); obtain ⟨k1, k2, k3, k4⟩ := ins_kept HB2.out _ _ rfl Y2 hY; have HBY2 := Lib.hid k2; clear hY hl k1 k2 k4)
  refine (done_any _ 2 (lst [232, 1]) (lst_ok (by decide)) (by decide) _ (slc_new Y2 _ _ 2 2 _ (Nat.le_refl _) (fun i hi => ?_))).mono ?_
  · match i, hi with
    | 0, _ => rfl
    | 1, _ => rfl
  rintro e w3 ⟨rfl, B3⟩
  rw [known_3]
  unfold insR
  have HR4 := Lib.hid (range_below (below_step (below_last (Below.refl _ _) _) B3) HR3.out)
  have HB3 := Lib.hid (below_step HBY2.out (below_step (below_last (Below.refl _ _) _) B3))
  have hz3 : w1.heap.size < w3.heap.size := Nat.lt_of_lt_of_le (by omega) (below_step (below_last (Below.refl _ _) _) B3).size
  clear HT HR2 HBY2 B3 k3 HR3 HB2
  have HT := Lib.hid (there_alloc_new w3 zeroA 33 18 (by decide))
  go_wp2_with (refine store_ins rfl (.tmp 5) (.tmp 20) rfl w3.heap.size rfl zeroI rfl HT.out ?_; intro Y3 hY hl; obtain ⟨c0, _, c2, c14, _, c17⟩ := ins_cells (show Y3.rangeAt w1.heap.size 0 (insL ⟨5, 0, 4, regO 1 0, numO 4294967264, 0, false, 3⟩) by rw [hY]; exact World.rangeAt_setCells_apart (World.rangeAt_alloc HR4.out _) _ _ _ (.inl (by omega))); have HBY3 := Lib.hid (ins_kept HB3.out _ _ rfl Y3 hY).2.1; dsimp only [numO] at c0 c2 c14 c17; clear hY hl)
  go_ret
  exact ⟨rfl, HBY3.out⟩
end Go.Proofs.Ytlhfpfiehgcciaa
namespace Go.Proofs.Ytlhfpfiehgcciaa
open Go
section
variable {P : Program} {C : World → Prop} {K : Act → Prop} {a : Act} {d : Option Tmp} {ty : TypeId} {pos : String} {af : Array Edge} {g : Option (Nat × Bool)}
theorem run_mv (v : Value) (u : World) : (execOp a.eval (Oper.mk d (.move (.const v)) ty pos af g)).run P u = .ok (.value v) u := by
  unfold execOp
  simp [Act.eval]
theorem quietC_val (op : Op) (v : Value) (h : ∀ u, C u → (execOp a.eval (Oper.mk d op ty pos af g)).run P u = .ok (.value v) u) (hK : (Oper.mk d (.move (.const v)) ty pos af g).quiet P a C K) : (Oper.mk d op ty pos af g).quiet P a C K := by
  obtain ⟨v', h1, h2⟩ := hK
  by_cases hne : ∃ u, C u
  · obtain ⟨u, hu⟩ := hne
    have h3 := h1 u hu
    unfold Oper.quietAt at h3
    rw [run_mv] at h3
    obtain ⟨_, rfl⟩ := h3
    exact ⟨_, fun u hu => by unfold Oper.quietAt; rw [h u hu]; exact ⟨rfl, rfl⟩, h2⟩
  · exact ⟨v', fun u hu => absurd ⟨u, hu⟩ hne, h2⟩
/-- what is read there -/
theorem quietC_read (t : TypeId) (x : Operand) (v : Value) (hl : ∀ u, C u → (Instr.loadAt t (a.eval x)).run P u = .ok v u) (hK : (Oper.mk d (.move (.const v)) ty pos af g).quiet P a C K) : (Oper.mk d (.load t x) ty pos af g).quiet P a C K :=
  quietC_val _ v (fun u hu => by
    unfold execOp
    simp only [Sem.run_bind, hl u hu, Result.andThen_ok, Sem.run_pure]) hK
theorem quietC_load (t : TypeId) (x : Operand) (b off : Nat) (hx : a.eval x = .pointer (some ⟨b, off, none⟩)) (cs : List Value) (e : TypeDesc) (hC : ∀ u, C u → u.rangeAt b off cs) (hu : P.underlying t = some e) (hd : e.isRow = true) (hi : (P.info? t).map (·.size) = some cs.length) (hK : (Oper.mk d (.move (.const (.agg cs.toArray))) ty pos af g).quiet P a C K) : (Oper.mk d (.load t x) ty pos af g).quiet P a C K :=
  quietC_read t x (.agg cs.toArray) (fun u hu' => by rw [hx]; exact run_loadAt_mid (P := P) u b off t cs e (hC u hu') hu hd hi) hK
end
end Go.Proofs.Ytlhfpfiehgcciaa
namespace Go.Proofs.Ytlhfpfiehgcciaa
open Go.ChangeShapes Go.WideShapes Go.ChangeAt Go.RowKit

/-- what was made behind w lies there -/
structure Lies (w : World) (l : List (Nat × List Value)) (u : World) : Prop where
  below : Below w.heap.size w u
  all : ∀ p ∈ l, p.1 < u.heap.size ∧ u.rangeAt p.1 0 p.2
theorem Lies.none {w u : World} (h : Below w.heap.size w u) : Lies w [] u := ⟨h, fun p hp => by cases hp⟩
theorem Lies.on {w u u' : World} {l : List (Nat × List Value)} (h : Lies w l u) (hb : Below u.heap.size u u') : Lies w l u' :=
  ⟨below_step h.below hb, fun p hp => ⟨Nat.lt_of_lt_of_le (h.all p hp).1 hb.size, range_below hb (h.all p hp).2⟩⟩
theorem Lies.drew {w u : World} {l : List (Nat × List Value)} (h : Lies w l u) : Lies w l { u with drawn := u.drawn + 1 } := ⟨h.below.drew, fun p hp => ⟨(h.all p hp).1, (h.all p hp).2⟩⟩
theorem Lies.alloc {w u : World} {l : List (Nat × List Value)} (h : Lies w l u) (o : Obj) : Lies w l (u.alloc o) := h.on (below_last (Below.refl _ _) _)
/-- one more struct is stored where it was just made -/
theorem Lies.put {w u : World} {l : List (Nat × List Value)} (h : Lies w l u) (C : Array Value) (T : TypeId) (cs : List Value) (hC : cs.length ≤ C.size) (B : Nat) (hB : B = u.heap.size) (Y : World) (hY : Y = (u.alloc (.cells C T)).setCells B 0 cs) : Lies w ((B, cs) :: l) Y := by
  subst hB hY
  refine ⟨below_setCells h.below.size _ _ _ (below_last h.below _), fun p hp => ?_⟩
  rcases List.mem_cons.1 hp with rfl | hp
  · exact ⟨by rw [setCells_size]; simp, World.rangeAt_setCells_same _ _ _ _ (there_alloc_new u C T _ hC)⟩
  · obtain ⟨h1, h2⟩ := h.all p hp
    exact ⟨by rw [setCells_size]; simp; omega, World.rangeAt_setCells_apart (World.rangeAt_alloc h2 _) _ _ _ (.inl (by omega))⟩
theorem Lies.at_ {w u : World} {l : List (Nat × List Value)} (h : Lies w l u) (B : Nat) (cs : List Value) (hm : (B, cs) ∈ l) : u.rangeAt B 0 cs := (h.all _ hm).2
/-- the cells of an instruction -/
theorem ins_all {i : Ins} {B : Nat} {w : World} (h : w.rangeAt B 0 (insL i)) : (w.cell? ⟨B, 0, none⟩ = some (.int .i64 i.op) ∧ w.cell? ⟨B, 1, none⟩ = some (.int .i64 i.cond) ∧ w.cell? ⟨B, 2, none⟩ = some (.int .i64 i.size) ∧ w.cell? ⟨B, 16, none⟩ = some (.bool i.rep) ∧ w.cell? ⟨B, 17, none⟩ = some (.int .i64 i.len)) ∧ (w.cell? ⟨B, 3, none⟩ = some (.int .i64 i.a.kind) ∧ w.cell? ⟨B, 4, none⟩ = some (.int .i64 i.a.reg) ∧ w.cell? ⟨B, 5, none⟩ = some (.int .i64 i.a.base) ∧ w.cell? ⟨B, 6, none⟩ = some (.int .i64 i.a.index) ∧ w.cell? ⟨B, 7, none⟩ = some (.int .i64 i.a.scale) ∧ w.cell? ⟨B, 8, none⟩ = some (.int .u32 i.a.disp)) :=
  ⟨⟨h 0 _ rfl, h 1 _ rfl, h 2 _ rfl, h 16 _ rfl, h 17 _ rfl⟩, h 3 _ rfl, h 4 _ rfl, h 5 _ rfl, h 6 _ rfl, h 7 _ rfl, h 8 _ rfl⟩
end Go.Proofs.Ytlhfpfiehgcciaa
namespace Go.Proofs.Ytlhfpfiehgcciaa
open Go.ChangeShapes Go.WideShapes Go.ChangeAt Go.RowKit

section
variable {H : Type} {enc : TypeId × Value → H} {P : Program}
end

section
variable {H : Type} {enc : TypeId × Value → H} {w : World} {base : Nat} {spare : Nat → Bool} {held : Bool}
end
end Go.Proofs.Ytlhfpfiehgcciaa
namespace Go.Proofs.Ytlhfpfiehgcciaa
open Go

end Go.Proofs.Ytlhfpfiehgcciaa
