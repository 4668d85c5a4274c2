/- The document's own memory (package salternref6): bytes that were set, in a map. -/
import Derived.Test.YtbbegbaaefgikaaRows
import Derived.Test.YtbbegbaaefgikaaOwn
import Derived.ProofKit
import Derived.OpenShut
import Derived.BigRegion
import Derived.Lib.Hide
import Derived.WalkLawsBesides
import Derived.Deep.OwnRows
import Derived.Maps.OwnSet
namespace Go.Proofs.Ytbbegbaaefgikaa
set_option maxRecDepth 100000
open Go.ChangeShapes Go.WideShapes Go.ChangeAt Go.RowKit Go.Maps Go.Deep

theorem key_u32 : Keyed Try.prog 22 := int_keyed Try.underlying22
theorem zero_u8 (w : World) : (zeroValue 5).run Try.prog w = .ok (.int .u8 0) w := by kernel_rfl
theorem wf_u32 (a : Int) (h0 : 0 ≤ a) (h1 : a < 4294967296) : (Lit.int .u32 a).wf = true := by
  simp only [Lit.wf, Bool.and_eq_true, decide_eq_true_eq]
  have e1 : IntKind.u32.min = 0 := by decide
  have e2 : IntKind.u32.max = 4294967295 := by decide
  omega
theorem wf_u8 (a : Int) (h0 : 0 ≤ a) (h1 : a < 256) : (Lit.int .u8 a).wf = true := by
  simp only [Lit.wf, Bool.and_eq_true, decide_eq_true_eq]
  have e1 : IntKind.u8.min = 0 := by decide
  have e2 : IntKind.u8.max = 255 := by decide
  omega
/-- the keys are numbers of 32 bits -/
def KeysU (D : DataW Unit) : Prop := ∀ es, D = .map es → ∀ p ∈ es, ∃ a : Int, p.1 = .int .u32 a ∧ 0 ≤ a ∧ a < 4294967296
theorem KeysU.put {D : DataW Unit} (h : KeysU D) (hI : IsMap D) (a : Int) (a0 : 0 ≤ a) (a1 : a < 4294967296) (d : DataW Unit) : KeysU (D.put (.int .u32 a) d) := by
  obtain ⟨es, rfl⟩ := hI
  intro fs hf p hp
  have hf : DataW.map (DataW.insert (.int .u32 a, d) (es.filter fun q => !q.1.sameKey (.int .u32 a))) = DataW.map fs := hf
  injection hf with hf
  subst hf
  rcases List.mem_cons.1 ((insert_perm _ _).mem_iff.1 hp) with rfl | hp
  · exact ⟨a, rfl, a0, a1⟩
  · exact h es rfl p (List.mem_filter.1 hp).1
/-- Block B is a map of at most n entries in which place a has the byte g a. -/
def RefMap (w : World) (B n : Nat) (g : Int → Int) : Prop :=
  ∃ D : DataW Unit, w.ownsMap Try.prog 22 (plainElem Try.prog 5) B n D ∧ (∀ a, 0 ≤ a → a < 4294967296 → D.atKey (.int .u32 a) (.lit (.int .u8 0)) = .lit (.int .u8 (g a))) ∧ IsMap D ∧ (∀ a, 0 ≤ g a ∧ g a < 256) ∧ KeysU D
theorem RefMap.but {F : Nat → Prop} {w w' : World} {B n : Nat} {g : Int → Int} (h : RefMap w B n g) (hb : But F w w') (hn : ¬ F B) : RefMap w' B n g := by
  obtain ⟨D, hm, r⟩ := h
  exact ⟨D, hb.owns hm hn, r⟩
theorem RefMap.made (w : World) : RefMap (w.alloc (.map #[] 0)) w.heap.size 0 (fun _ => 0) :=
  ⟨.map [], World.ownsMap_made _ _ _ _, fun _ _ _ => rfl, isMap_empty, fun _ => ⟨Int.le_refl 0, by show (0 : Int) < 256; omega⟩, fun es he p hp => by injection he with he; subst he; cases hp⟩
def setG (g : Int → Int) (a v : Int) : Int → Int := fun b => if b = a then v else g b
/-- A store into the map. -/
theorem RefMap.put {w : World} {B n : Nat} {g : Int → Int} (h : RefMap w B n g) (hn : n < maxLen) (a v : Int) (a0 : 0 ≤ a) (a1 : a < 4294967296) (v0 : 0 ≤ v) (v1 : v < 256) :
    ∃ w', (Instr.mapUpdate 88 (.map (some B)) (.int .u32 a) (.int .u8 v)).run Try.prog w = .ok () w' ∧ RefMap w' B (n + 1) (setG g a v) ∧ But (· = B) w w' := by
  obtain ⟨D, hm, hr, hI, hg, hK⟩ := h
  have hk : keyOf Try.prog 22 (.int .u32 a) = some (.int .u32 a) := keyOf_int_mk Try.underlying22 (wf_u32 a a0 a1)
  obtain ⟨w', hrun, hm', hgr⟩ := hm.update key_u32 Try.underlying88 hn hk (plainElem_int Try.underlying5 (wf_u8 v v0 v1))
  refine ⟨w', hrun, ⟨_, hm', fun b b0 b1 => ?_, hI.put _ _, fun b => ?_, hK.put hI a a0 a1 _⟩, But.of_grown hgr⟩
  · unfold setG
    by_cases hb : b = a
    · subst hb
      rw [if_pos rfl]
      exact atKey_put_same hI (by simp [WideAt.IsKeyLit]) _ _
    · rw [if_neg hb, atKey_put_other (by simpa using hb) _ _]
      exact hr b b0 b1
  · unfold setG
    split
    · exact ⟨v0, v1⟩
    · exact hg b
/-- What the map has. -/
theorem RefMap.get {w : World} {B n : Nat} {g : Int → Int} (h : RefMap w B n g) (a : Int) (a0 : 0 ≤ a) (a1 : a < 4294967296) :
    (Instr.lookup 88 (.map (some B)) (.int .u32 a) false).run Try.prog w = .ok (.int .u8 (g a)) w := by
  obtain ⟨D, hm, hr, hI, hg, hK⟩ := h
  have hk : keyOf Try.prog 22 (.int .u32 a) = some (.int .u32 a) := keyOf_int_mk Try.underlying22 (wf_u32 a a0 a1)
  obtain ⟨c, hrun, hat, hwc⟩ := hm.lookup_int key_u32 Try.underlying88 Try.underlying5 (zero_u8 _) hk
  rw [hr a a0 a1] at hat
  injection hat with hat
  injection hat with _ hat
  rw [hrun, hat]
/-- there are no more keys than numbers -/
theorem RefMap.few {w : World} {B n : Nat} {g : Int → Int} (h : RefMap w B n g) : RefMap w B 4294967296 g := by
  obtain ⟨D, hm, hr, hI, hg, hK⟩ := h
  have ht := hm.tidy key_u32
  have hs : Maps.size D ≤ 4294967296 := by
    obtain ⟨es, rfl, hp⟩ := ht
    have hK := hK es rfl
    let f : Lit × DataW Unit → Nat := fun p => match p.1 with
      | .int _ a => a.toNat
      | _ => 0
    have hn : (es.map f).Nodup := by
      refine List.pairwise_map.2 (List.Pairwise.imp_of_mem (fun {p q} hp hq hne => ?_) hp)
      obtain ⟨a, ha, a0, _⟩ := hK p hp
      obtain ⟨b, hb, b0, _⟩ := hK q hq
      have e1 : f p = a.toNat := by show (match p.1 with | .int _ a => a.toNat | _ => 0) = _; rw [ha]
      have e2 : f q = b.toNat := by show (match q.1 with | .int _ a => a.toNat | _ => 0) = _; rw [hb]
      rw [e1, e2]
      intro e
      exact hne (by rw [ha, hb, show a = b by omega])
    have hsub : es.map f ⊆ List.range 4294967296 := fun x hx => by
      obtain ⟨p, hp, rfl⟩ := List.mem_map.1 hx
      obtain ⟨a, ha, a0, a1⟩ := hK p hp
      have e1 : f p = a.toNat := by show (match p.1 with | .int _ a => a.toNat | _ => 0) = _; rw [ha]
      rw [e1]
      exact List.mem_range.2 (by omega)
    have := hn.length_le_of_subset hsub
    rw [List.length_map, List.length_range] at this
    exact this
  refine ⟨D, ?_, hr, hI, hg, hK⟩
  obtain ⟨es, clock, hb, F, _, rfl⟩ := hm
  refine ⟨es, clock, hb, F, ?_, rfl⟩
  simpa [Maps.size, length_sorted] using hs
theorem rmnew_any (w : World) : Calls Try.prog 20 #[] w fun e w' => ∃ p B, e = .returned (.pointer (some ⟨p, 0, none⟩)) ∧ w.heap.size ≤ p ∧ w.heap.size ≤ B ∧ p ≠ B ∧ p < w'.heap.size ∧ w'.cell? ⟨p, 0, none⟩ = some (.map (some B)) ∧ RefMap w' B 0 (fun _ => 0) ∧ Below w.heap.size w w' := by
  have hmm := @run_makeMap Try.prog
  go_enter Try.func20, Try.ntmps20
  go_wp2
  go_ret
  refine ⟨w.heap.size + 1, w.heap.size, by simp, by omega, by omega, by omega, by simp, by simp, (RefMap.made w).but (F := fun _ => False) ((But.refl _ _).alloc _) (by simp), below_last (below_last (Below.refl _ _) _) _⟩
theorem info_u8 : (Try.prog.info? 5).map (fun i => (i.zero, i.size, i.bytes)) = some (some (.int .u8 0), 1, 1) := by kernel_rfl
/-- how many bytes a reading has -/
def readN (m : Int) : Nat := if m < 0 then 0 else if 1048576 < m then 1048576 else m.toNat
theorem readN_le (m : Int) : readN m ≤ 1048576 := by unfold readN; split <;> (try split) <;> omega
def place (a : Int) (i : Nat) : Int := (a + i) % 4294967296
attribute [local go_sem] isSome_setCell
end Go.Proofs.Ytbbegbaaefgikaa
