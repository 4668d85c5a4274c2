import Derived.WalkKit
import Derived.Maps.Own
import Derived.Maps.OwnOps
import Derived.Maps.Views
import Derived.Test.YtbbegbaaefgikaaRows
import Derived.ProofKit
import Derived.OpenShut
import Derived.BigRegion
import Derived.Lib.Hide
import Derived.WalkLawsBesides
import Derived.Deep.OwnRows
import Derived.Maps.OwnSet
import Derived.StillTailTactics
import Derived.Deep.DeepCutAuto
import Derived.ChangeSame
import Derived.ChangeArms
import Derived.Carry
import Derived.ChangeSlices
import Derived.Laws.IdiomStrings
import Derived.Laws.BytesString
namespace Go.Proofs.Ytbbegbaaefgikaa
section
set_option maxRecDepth 100000
structure Opd where
  kind : Int
  reg : Int
  base : Int
  index : Int
  scale : Int
  disp : Int
  deriving DecidableEq
def sx9 (c : Int) : Int := if c < 128 then c else c + 4294967040
def four9 (a b c d : Int) : Int := a + b * 256 + c * 65536 + d * 16777216
def scale9 (k : Int) : Int := if k = 0 then 1 else if k = 1 then 2 else if k = 2 then 4 else 8
def sibI (s : Int) : Int := if s / 8 % 8 = 4 then -1 else s / 8 % 8
def sibS (s : Int) : Int := if s / 8 % 8 = 4 then 1 else scale9 (s / 64)
def more9 (md base : Int) : Nat := if md = 0 then (if base = 5 then 4 else 0) else if md = 1 then 1 else 4
def disp9 (k : Nat) (bs : Nat → Int) (n : Nat) : Int := if k = 1 then sx9 (bs n) else if k = 4 then four9 (bs n) (bs (n + 1)) (bs (n + 2)) (bs (n + 3)) else 0
def base9 (md base : Int) : Int := if md = 0 ∧ base = 5 then -1 else base
def rmF (L : Nat) (bs : Nat → Int) : Option (Opd × Int × Nat) :=
  if L = 0 then none
  else if bs 0 / 64 = 3 then some (⟨1, bs 0 % 8, -1, -1, 1, 0⟩, bs 0 / 8 % 8, 1)
  else if bs 0 % 8 = 4 then
    if L < 2 then none
    else if L < 2 + more9 (bs 0 / 64) (bs 1 % 8) then none
    else some (⟨3, 0, base9 (bs 0 / 64) (bs 1 % 8), sibI (bs 1), sibS (bs 1), disp9 (more9 (bs 0 / 64) (bs 1 % 8)) bs 2⟩, bs 0 / 8 % 8, 2 + more9 (bs 0 / 64) (bs 1 % 8))
  else if L < 1 + more9 (bs 0 / 64) (bs 0 % 8) then none
  else some (⟨3, 0, base9 (bs 0 / 64) (bs 0 % 8), -1, 1, disp9 (more9 (bs 0 / 64) (bs 0 % 8)) bs 1⟩, bs 0 / 8 % 8, 1 + more9 (bs 0 / 64) (bs 0 % 8))
def memOk (o : Opd) : Prop := o.kind = 3 ∧ o.reg = 0 ∧ -1 ≤ o.base ∧ o.base ≤ 7 ∧ -1 ≤ o.index ∧ o.index ≤ 7 ∧ o.index ≠ 4 ∧ (o.scale = 1 ∨ o.scale = 2 ∨ o.scale = 4 ∨ o.scale = 8) ∧ (o.index ≠ -1 ∨ o.scale = 1)
instance (o : Opd) : Decidable (memOk o) := by unfold memOk; infer_instance
def regOk (o : Opd) : Prop := 0 ≤ o.reg ∧ o.reg ≤ 7 ∧ o = ⟨1, o.reg, -1, -1, 1, 0⟩
instance (o : Opd) : Decidable (regOk o) := by unfold regOk; infer_instance
end
section
open Go.RowKit
set_option maxRecDepth 100000
def wid (n : Int) : Nat := if n < 2 then 8 else if n < 4 then 16 else 32
def cut (v n : Int) : Int := v % 2 ^ (wid n)
def bt (v : Int) (k : Nat) : Bool := decide (v / 2 ^ k % 2 = 1)
def hi (v n : Int) : Bool := bt v (wid n - 1)
def par (v : Int) : Bool := decide ((v % 2 + v / 2 % 2 + v / 4 % 2 + v / 8 % 2 + v / 16 % 2 + v / 32 % 2 + v / 64 % 2 + v / 128 % 2) % 2 = 0)
theorem wid_cases (n : Int) : wid n = 8 ∨ wid n = 16 ∨ wid n = 32 := by unfold wid; split <;> (try split) <;> simp
theorem wid_lo (n : Int) : (8 : Int) ≤ wid n := by rcases wid_cases n with h | h | h <;> rw [h] <;> decide
theorem wid_hi (n : Int) : (wid n : Int) ≤ 32 := by rcases wid_cases n with h | h | h <;> rw [h] <;> decide
/-! bits of a number of 32 bits -/
/-! what the program's own sums come to -/
theorem cut_eq (v n : Int) : v * 2 ^ (32 - wid n) % 4294967296 / 2 ^ (32 - wid n) = cut v n := by
  unfold cut
  rcases wid_cases n with h | h | h <;> rw [h] <;> simp <;> omega
theorem bcell {W w1 : World} (hb : Below W.heap.size W w1) : (∀ b o, b < W.heap.size → w1.cell? ⟨b, o, none⟩ = W.cell? ⟨b, o, none⟩) ∧ (∀ b o, b < W.heap.size → w1.frozen? ⟨b, o, none⟩ = W.frozen? ⟨b, o, none⟩) :=
  ⟨fun b o h => hb.cell (p := ⟨b, o, none⟩) h, fun b o h => hb.frozen (p := ⟨b, o, none⟩) h⟩
/-! what the document's own sums come to -/
theorem bsize {W W1 : World} {o : Obj} (hb : Below (W.alloc o).heap.size (W.alloc o) W1) : W.heap.size < W1.heap.size := by
  have := hb.size
  simp at this
  omega
theorem below_next {w W W1 : World} {o : Obj} (h : Below w.heap.size w W) (hb : Below (W.alloc o).heap.size (W.alloc o) W1) : Below w.heap.size w W1 :=
  (h.alloc h.size _).trans (hb.mono (by have := h.size; simp; omega))
theorem below_last {w W : World} (h : Below w.heap.size w W) (o : Obj) : Below w.heap.size w (W.alloc o) := h.alloc h.size o
/-! what lies in a block stays there, call by call -/
theorem cell_lt {W : World} {p : Addr} {x : Value} (h : W.cell? p = some x) : p.block < W.heap.size := by
  unfold World.cell? at h
  rcases Nat.lt_or_ge p.block W.heap.size with hl | hl
  · exact hl
  · rw [Array.getElem?_eq_none hl] at h
    simp at h
end
section
open Go.RowKit
set_option maxRecDepth 100000
theorem set_same {w : World} {a : Addr} {u : Value} (v : Value) (h : w.cell? a = some u) : (w.setCell a v).cell? a = some v := World.cell?_setCell_same w a v h
theorem set_other {w : World} {a b : Addr} {x : Value} (v : Value) (hn : a ≠ b) (h : w.cell? b = some x) : (w.setCell a v).cell? b = some x := by
  rw [World.cell?_setCell_other w a b v hn, h]
end
section
open Go.RowKit Go.Maps
set_option maxRecDepth 100000
structure But (F : Nat → Prop) (w w' : World) : Prop where
  os : w'.os = w.os
  tape : w'.tape = w.tape
  output : w'.output = w.output
  size : w.heap.size ≤ w'.heap.size
  block : ∀ k, k < w.heap.size → ¬ F k → w'.heap[k]? = w.heap[k]?
theorem But.refl (F : Nat → Prop) (w : World) : But F w w := ⟨rfl, rfl, rfl, Nat.le_refl _, fun _ _ _ => rfl⟩
theorem But.trans {F G : Nat → Prop} {a b c : World} (h : But F a b) (k : But G b c) (hG : ∀ i, i < a.heap.size → G i → F i) : But F a c :=
  ⟨k.os.trans h.os, k.tape.trans h.tape, k.output.trans h.output, Nat.le_trans h.size k.size, fun i hi hF => (k.block i (Nat.lt_of_lt_of_le hi h.size) (fun hg => hF (hG i hi hg))).trans (h.block i hi hF)⟩
theorem But.mono {F G : Nat → Prop} {a b : World} (h : But F a b) (hG : ∀ i, i < a.heap.size → F i → G i) : But G a b :=
  ⟨h.os, h.tape, h.output, h.size, fun i hi hn => h.block i hi (fun hf => hn (hG i hi hf))⟩
theorem But.of_below {F : Nat → Prop} {w w' : World} (h : Below w.heap.size w w') : But F w w' := ⟨h.os, h.tape, h.output, h.size, fun k hk _ => h.block k hk⟩
theorem But.of_grown {w w' : World} {b : Nat} (h : w.grownBy w' (some b)) : But (· = b) w w' := ⟨h.os, h.tape, h.output, h.size, fun k hk hn => h.block k hk (fun e => hn (by injection e))⟩
theorem But.alloc {F : Nat → Prop} {w w' : World} (h : But F w w') (o : Obj) : But F w (w'.alloc o) :=
  h.trans (But.of_below (F := F) ((Below.refl _ _).alloc (Nat.le_refl _) _)) (fun _ _ hf => hf)
theorem But.drew {F : Nat → Prop} {w w' : World} (h : But F w w') : But F w w'.drew := ⟨h.os, h.tape, h.output, h.size, h.block⟩
theorem But.setCell {F : Nat → Prop} {w w' : World} (h : But F w w') {a : Addr} (ha : a.block < w.heap.size → F a.block) (v : Value) : But F w (w'.setCell a v) := by
  refine ⟨h.os, h.tape, h.output, by simpa using h.size, fun k hk hn => ?_⟩
  have hne : a.block ≠ k := fun e => hn (e ▸ ha (e ▸ hk))
  rw [← h.block k hk hn]
  simp [World.setCell, Array.getElem?_modify, hne]
theorem But.cell {F : Nat → Prop} {w w' : World} (h : But F w w') {p : Addr} {x : Value} (hc : w.cell? p = some x) (hn : ¬ F p.block) : w'.cell? p = some x := by
  rw [World.cell?_of_block (h.block p.block (cell_lt hc) hn), hc]
theorem But.frozen {F : Nat → Prop} {w w' : World} (h : But F w w') {p : Addr} (hl : p.block < w.heap.size) (hn : ¬ F p.block) : w'.frozen? p = w.frozen? p :=
  World.frozen?_of_block (h.block p.block hl hn)
theorem But.below {F : Nat → Prop} {B : Nat} {a w w' : World} (h : But F w w') (hb : Below B a w) (hF : ∀ k, F k → B ≤ k) (hB : B ≤ w.heap.size) : Below B a w' :=
  ⟨h.os.trans hb.os, h.tape.trans hb.tape, h.output.trans hb.output, Nat.le_trans hb.size h.size, fun k hk => (h.block k (Nat.lt_of_lt_of_le hk hB) (fun hf => by have := hF k hf; omega)).trans (hb.block k hk)⟩
theorem But.owns {H : Type} {F : Nat → Prop} {w w' : World} {P : Program} {k : TypeId} {R : Value → Option (DataW H × List MemPlace)} {b n : Nat} {D : DataW H} (h : But F w w') (hm : w.ownsMap P k R b n D) (hn : ¬ F b) : w'.ownsMap P k R b n D := by
  have hl := hm.lt
  obtain ⟨es, clock, hb, r⟩ := hm
  exact ⟨es, clock, (h.block b hl hn).trans hb, r⟩
end
section
open Go.ChangeShapes Go.WideShapes Go.ChangeAt Go.RowKit Go.Maps Go.Deep
set_option maxRecDepth 100000
theorem key_u32 : Keyed Try.prog 22 := int_keyed Try.underlying22
theorem zero_u8 (w : World) : (zeroValue 5).run Try.prog w = .ok (.int .u8 0) w := by kernel_rfl
theorem wf_u32 (a : Int) (h0 : 0 ≤ a) (h1 : a < 4294967296) : (Lit.int .u32 a).wf = true := by
  simp only [Lit.wf, Bool.and_eq_true, decide_eq_true_eq]
  have e1 : IntKind.u32.min = 0 := by decide
  have e2 : IntKind.u32.max = 4294967295 := by decide
  omega
theorem wf_u8 (a : Int) (h0 : 0 ≤ a) (h1 : a < 256) : (Lit.int .u8 a).wf = true := by
  simp only [Lit.wf, Bool.and_eq_true, decide_eq_true_eq]
  have e1 : IntKind.u8.min = 0 := by decide
  have e2 : IntKind.u8.max = 255 := by decide
  omega
def KeysU (D : DataW Unit) : Prop := ∀ es, D = .map es → ∀ p ∈ es, ∃ a : Int, p.1 = .int .u32 a ∧ 0 ≤ a ∧ a < 4294967296
theorem KeysU.put {D : DataW Unit} (h : KeysU D) (hI : IsMap D) (a : Int) (a0 : 0 ≤ a) (a1 : a < 4294967296) (d : DataW Unit) : KeysU (D.put (.int .u32 a) d) := by
  obtain ⟨es, rfl⟩ := hI
  intro fs hf p hp
  have hf : DataW.map (DataW.insert (.int .u32 a, d) (es.filter fun q => !q.1.sameKey (.int .u32 a))) = DataW.map fs := hf
  injection hf with hf
  subst hf
  rcases List.mem_cons.1 ((insert_perm _ _).mem_iff.1 hp) with rfl | hp
  · exact ⟨a, rfl, a0, a1⟩
  · exact h es rfl p (List.mem_filter.1 hp).1
def RefMap (w : World) (B n : Nat) (g : Int → Int) : Prop :=
  ∃ D : DataW Unit, w.ownsMap Try.prog 22 (plainElem Try.prog 5) B n D ∧ (∀ a, 0 ≤ a → a < 4294967296 → D.atKey (.int .u32 a) (.lit (.int .u8 0)) = .lit (.int .u8 (g a))) ∧ IsMap D ∧ (∀ a, 0 ≤ g a ∧ g a < 256) ∧ KeysU D
theorem RefMap.but {F : Nat → Prop} {w w' : World} {B n : Nat} {g : Int → Int} (h : RefMap w B n g) (hb : But F w w') (hn : ¬ F B) : RefMap w' B n g := by
  obtain ⟨D, hm, r⟩ := h
  exact ⟨D, hb.owns hm hn, r⟩
theorem RefMap.made (w : World) : RefMap (w.alloc (.map #[] 0)) w.heap.size 0 (fun _ => 0) :=
  ⟨.map [], World.ownsMap_made _ _ _ _, fun _ _ _ => rfl, isMap_empty, fun _ => ⟨Int.le_refl 0, by show (0 : Int) < 256; omega⟩, fun es he p hp => by injection he with he; subst he; cases hp⟩
def setG (g : Int → Int) (a v : Int) : Int → Int := fun b => if b = a then v else g b
theorem RefMap.put {w : World} {B n : Nat} {g : Int → Int} (h : RefMap w B n g) (hn : n < maxLen) (a v : Int) (a0 : 0 ≤ a) (a1 : a < 4294967296) (v0 : 0 ≤ v) (v1 : v < 256) :
    ∃ w', (Instr.mapUpdate 88 (.map (some B)) (.int .u32 a) (.int .u8 v)).run Try.prog w = .ok () w' ∧ RefMap w' B (n + 1) (setG g a v) ∧ But (· = B) w w' := by
  obtain ⟨D, hm, hr, hI, hg, hK⟩ := h
  have hk : keyOf Try.prog 22 (.int .u32 a) = some (.int .u32 a) := keyOf_int_mk Try.underlying22 (wf_u32 a a0 a1)
  obtain ⟨w', hrun, hm', hgr⟩ := hm.update key_u32 Try.underlying88 hn hk (plainElem_int Try.underlying5 (wf_u8 v v0 v1))
  refine ⟨w', hrun, ⟨_, hm', fun b b0 b1 => ?_, hI.put _ _, fun b => ?_, hK.put hI a a0 a1 _⟩, But.of_grown hgr⟩
  · unfold setG
    by_cases hb : b = a
    · subst hb
      rw [if_pos rfl]
      exact atKey_put_same hI (by simp [WideAt.IsKeyLit]) _ _
    · rw [if_neg hb, atKey_put_other (by simpa using hb) _ _]
      exact hr b b0 b1
  · unfold setG
    split
    · exact ⟨v0, v1⟩
    · exact hg b
theorem RefMap.get {w : World} {B n : Nat} {g : Int → Int} (h : RefMap w B n g) (a : Int) (a0 : 0 ≤ a) (a1 : a < 4294967296) :
    (Instr.lookup 88 (.map (some B)) (.int .u32 a) false).run Try.prog w = .ok (.int .u8 (g a)) w := by
  obtain ⟨D, hm, hr, hI, hg, hK⟩ := h
  have hk : keyOf Try.prog 22 (.int .u32 a) = some (.int .u32 a) := keyOf_int_mk Try.underlying22 (wf_u32 a a0 a1)
  obtain ⟨c, hrun, hat, hwc⟩ := hm.lookup_int key_u32 Try.underlying88 Try.underlying5 (zero_u8 _) hk
  rw [hr a a0 a1] at hat
  injection hat with hat
  injection hat with _ hat
  rw [hrun, hat]
theorem RefMap.few {w : World} {B n : Nat} {g : Int → Int} (h : RefMap w B n g) : RefMap w B 4294967296 g := by
  obtain ⟨D, hm, hr, hI, hg, hK⟩ := h
  have ht := hm.tidy key_u32
  have hs : Maps.size D ≤ 4294967296 := by
    obtain ⟨es, rfl, hp⟩ := ht
    have hK := hK es rfl
    let f : Lit × DataW Unit → Nat := fun p => match p.1 with
      | .int _ a => a.toNat
      | _ => 0
    have hn : (es.map f).Nodup := by
      refine List.pairwise_map.2 (List.Pairwise.imp_of_mem (fun {p q} hp hq hne => ?_) hp)
      obtain ⟨a, ha, a0, _⟩ := hK p hp
      obtain ⟨b, hb, b0, _⟩ := hK q hq
      have e1 : f p = a.toNat := by show (match p.1 with | .int _ a => a.toNat | _ => 0) = _; rw [ha]
      have e2 : f q = b.toNat := by show (match q.1 with | .int _ a => a.toNat | _ => 0) = _; rw [hb]
      rw [e1, e2]
      intro e
      exact hne (by rw [ha, hb, show a = b by omega])
    have hsub : es.map f ⊆ List.range 4294967296 := fun x hx => by
      obtain ⟨p, hp, rfl⟩ := List.mem_map.1 hx
      obtain ⟨a, ha, a0, a1⟩ := hK p hp
      have e1 : f p = a.toNat := by show (match p.1 with | .int _ a => a.toNat | _ => 0) = _; rw [ha]
      rw [e1]
      exact List.mem_range.2 (by omega)
    have := hn.length_le_of_subset hsub
    rw [List.length_map, List.length_range] at this
    exact this
  refine ⟨D, ?_, hr, hI, hg, hK⟩
  obtain ⟨es, clock, hb, F, _, rfl⟩ := hm
  refine ⟨es, clock, hb, F, ?_, rfl⟩
  simpa [Maps.size, length_sorted] using hs
theorem rmnew_any (w : World) : Calls Try.prog 20 #[] w fun e w' => ∃ p B, e = .returned (.pointer (some ⟨p, 0, none⟩)) ∧ w.heap.size ≤ p ∧ w.heap.size ≤ B ∧ p ≠ B ∧ p < w'.heap.size ∧ w'.cell? ⟨p, 0, none⟩ = some (.map (some B)) ∧ RefMap w' B 0 (fun _ => 0) ∧ Below w.heap.size w w' := by
  have hmm := @run_makeMap Try.prog
  go_enter Try.func20, Try.ntmps20
  go_wp2
  go_ret
  refine ⟨w.heap.size + 1, w.heap.size, by simp, by omega, by omega, by omega, by simp, by simp, (RefMap.made w).but (F := fun _ => False) ((But.refl _ _).alloc _) (by simp), below_last (below_last (Below.refl _ _) _) _⟩
theorem info_u8 : (Try.prog.info? 5).map (fun i => (i.zero, i.size, i.bytes)) = some (some (.int .u8 0), 1, 1) := by kernel_rfl
def readN (m : Int) : Nat := if m < 0 then 0 else if 1048576 < m then 1048576 else m.toNat
theorem readN_le (m : Int) : readN m ≤ 1048576 := by unfold readN; split <;> (try split) <;> omega
def place (a : Int) (i : Nat) : Int := (a + i) % 4294967296
end
section
open Go.ChangeShapes Go.WideShapes Go.ChangeAt Go.RowKit Go.Maps Go.Deep
set_option maxRecDepth 100000
def writeG (g : Int → Int) (a : Int) (bs : Nat → Int) : Nat → Int → Int
  | 0 => g
  | k + 1 => setG (writeG g a bs k) (place a k) (bs k)
set_option maxRecDepth 100000
set_option maxHeartbeats 2000000
theorem rmwrite_any (p B n : Nat) (g : Int → Int) (a : Int) (ad : Addr) (L cap : Nat) (bs : Nat → Int) (hn : n + L < maxLen) (hL : L < 4294967296) (w : World) (hc : w.cell? ⟨p, 0, none⟩ = some (.map (some B))) (hm : RefMap w B n g) (hpB : p ≠ B) (hadB : ad.block ≠ B)
    (hb : ∀ i, i < L → w.cell? (ad.add i) = some (.int .u8 (bs i))) (hb0 : ∀ i, 0 ≤ bs i ∧ bs i < 256) :
    Calls Try.prog 21 #[.pointer (some ⟨p, 0, none⟩), .int .u32 a, .slice (some ad) L cap] w fun e w' => e = .returned (.tuple #[]) ∧ RefMap w' B (n + L) (writeG g a bs L) ∧ But (· = B) w w' := by
  go_enter Try.func21, Try.ntmps21
  go_wp2
  go_loopw [6] (fun v wr => ∃ i : Nat, i ≤ L ∧ v = .int .i64 i ∧ But (· = B) w wr ∧ RefMap wr B (n + i) (writeG g a bs i)) (fun v _ => L - (intOf v).toNat)
  case atStart => exact ⟨0, by omega, rfl, But.refl _ _, hm⟩
  case round =>
    obtain ⟨i, hi, rfl, hr, hm2⟩ := hrel
    have hc2 : wr.cell? ⟨p, 0, none⟩ = some (.map (some B)) := hr.cell hc hpB
    by_cases hlt : i < L
    · have hb2 : wr.cell? (ad.add i) = some (.int .u8 (bs i)) := hr.cell (hb i hlt) (show ¬ (ad.add i).block = B by unfold Addr.add; split <;> exact hadB)
      have hp0 : 0 ≤ place a i := by unfold place; omega
      have hp1 : place a i < 4294967296 := by unfold place; omega
      have hk : IntKind.u32.wrap (a + IntKind.u32.wrap (i : Int)) = place a i := by rw [IntKind.wrap_u32, IntKind.wrap_u32]; unfold place; omega
      obtain ⟨w2, hrun, hm3, hbut⟩ := RefMap.put (w := wr.drew) (hm2.but (F := fun _ => False) ((But.refl _ _).drew) (by simp)) (by omega) _ _ hp0 hp1 (hb0 i).1 (hb0 i).2
      rw [← hk] at hrun
      clear hk
      obtain ⟨wo, rfl⟩ : ∃ wo : World, wo = wr := ⟨_, rfl⟩
      have hd : decide ((i : Int) < (L : Int)) = true := decide_eq_true (by omega)
      go_upto_region 3 with (fail)
      go_still_tail 12, (by kernel_rfl)
      change wpList _ _ _ _ _ wo.drew
      have hc3 : wo.drew.cell? ⟨p, 0, none⟩ = some (.map (some B)) := hc2
      have hb3 : wo.drew.cell? (ad.add i) = some (.int .u8 (bs i)) := hb2
      have hr3 : But (· = B) w wo.drew := hr.drew
      generalize wo.drew = W at *
      clear hm hm2 hr hc2 hb2
      go_wp2_with fail
      go_roundw
      case rel => exact ⟨i + 1, by omega, by go_num, hr3.trans hbut (fun _ _ h => h), hm3⟩
      case measure => simp [intOf]; try omega
    · obtain rfl : i = L := by omega
      have hd : decide ((i : Int) < (i : Int)) = false := by simp
      go_wp2
      go_end0
      exact ⟨rfl, hm2, hr⟩
end
section
open Go.ChangeShapes Go.WideShapes Go.ChangeAt Go.RowKit
set_option maxRecDepth 100000
def Slc (k : IntKind) (w : World) (v : Value) (L : Nat) (bs : Nat → Int) : Prop :=
  (v = .slice none 0 0 ∧ L = 0) ∨ ∃ ad cap, v = .slice (some ad) L cap ∧ L ≤ cap ∧ ∀ i, i < L → w.cell? (ad.add i) = some (.int k (bs i))
theorem add_block (a : Addr) (i : Nat) : (a.add i).block = a.block := by unfold Addr.add; split <;> rfl
theorem Slc.but {k : IntKind} {F : Nat → Prop} {w w' : World} {v : Value} {L : Nat} {bs : Nat → Int} (h : Slc k w v L bs) (hb : But F w w') (hn : 0 < L → ∀ j, v.ownBlock = some j → ¬ F j) : Slc k w' v L bs := by
  rcases h with h | ⟨ad, cap, rfl, hl, hc⟩
  · exact .inl h
  · refine .inr ⟨ad, cap, rfl, hl, fun i hi => hb.cell (hc i hi) ?_⟩
    rw [add_block]
    exact hn (by omega) _ rfl
theorem Slc.below {k : IntKind} {w w' : World} {v : Value} {L : Nat} {bs : Nat → Int} (h : Slc k w v L bs) (hb : Below w.heap.size w w') : Slc k w' v L bs :=
  h.but (F := fun _ => False) (But.of_below hb) (fun _ _ _ h => h)
theorem Slc.own_lt {k : IntKind} {w : World} {v : Value} {L : Nat} {bs : Nat → Int} (h : Slc k w v L bs) (hL : 0 < L) (j : Nat) (hj : v.ownBlock = some j) : j < w.heap.size := by
  rcases h with ⟨rfl, rfl⟩ | ⟨ad, cap, rfl, hl, hc⟩
  · cases hj
  · injection hj with hj
    have := cell_lt (hc 0 hL)
    rw [add_block] at this
    omega
theorem Slc.len {k : IntKind} {w : World} {v : Value} {L : Nat} {bs : Nat → Int} (h : Slc k w v L bs) : ∃ a cap, v = .slice a L cap := by
  rcases h with ⟨rfl, rfl⟩ | ⟨ad, cap, rfl, hl, hc⟩
  · exact ⟨_, _, rfl⟩
  · exact ⟨_, _, rfl⟩
theorem Slc.congr {k : IntKind} {w : World} {v : Value} {L : Nat} {bs cs : Nat → Int} (h : Slc k w v L bs) (e : ∀ i, i < L → bs i = cs i) : Slc k w v L cs := by
  rcases h with h | ⟨ad, cap, rfl, hl, hc⟩
  · exact .inl h
  · exact .inr ⟨ad, cap, rfl, hl, fun i hi => by rw [hc i hi, e i hi]⟩
def setP (pg : Int → Bool) (a : Int) : Int → Bool := fun q => q == a / 4096 * 4096 || pg q
def writeP (pg : Int → Bool) (a : Int) : Nat → Int → Bool
  | 0 => pg
  | k + 1 => setP (writeP pg a k) (place a k)
end
end Go.Proofs.Ytbbegbaaefgikaa
