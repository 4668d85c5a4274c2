/- The landed memory: Set and Write. -/
import Derived.Test.YtkmoefgoolhegaaMemA
namespace Go.Proofs.Ytkmoefgoolhegaa
open Go.ChangeShapes Go.WideShapes Go.ChangeAt Go.RowKit Go.Maps Go.Deep

theorem setP_pg0 (pg : Int → Bool) (a : Int) : setP pg (pg0 a) = setP pg a := by
  funext x
  unfold setP pg0
  rw [show a / 4096 * 4096 / 4096 * 4096 = a / 4096 * 4096 by omega]
theorem mset0_any (p : Nat) (F : Nat → Prop) (g : Int → Int) (pg : Int → Bool) (pt : Int → Option Nat) (B : Nat) (D : DataW Unit) (a v : Int) (a0 : 0 ≤ a) (a1 : a < 4294967296) (v0 : 0 ≤ v) (v1 : v < 256) (w : World) (hm : PAt w p F g pg pt B D) :
    Calls Try.prog 9 #[.pointer (some ⟨p, 0, none⟩), .int .u32 a, .int .u8 v] w fun e w' => ∃ F' pt' D', e = .returned (.tuple #[]) ∧ (∀ k, F' k → F k ∨ w.heap.size ≤ k) ∧ PAt w' p F' (setG g a v) (setP pg a) pt' B D' ∧ But F w w' := by
  obtain ⟨q0, q1, q2⟩ := pg0_range a a0 a1
  obtain ⟨i, hi⟩ : ∃ i : Nat, (i : Int) = a % 4096 := ⟨(a % 4096).toNat, by omega⟩
  have hi1 : i < 4096 := by omega
  have ha : pg0 a + (i : Int) = a := by unfold pg0; omega
  go_enter Try.func9, Try.ntmps9
  go_wp2_with fail
  refine (split_any a a0 a1 _).mono ?_
  rintro e w1 ⟨rfl, hw1⟩
  subst w1
  rw [← hi]
  clear hi
  go_wp2_with fail
  refine (grown_any p F g pg pt B D (pg0 a) q0 q1 q2 _ hm).mono ?_
  rintro e w1 ⟨F', k, pt', D', rfl, hF1, hF2, hk, hm1, hbut⟩
  obtain ⟨_, hFk, _, _, hrow⟩ := hm1.page _ _ hk
  have hcell := hrow.cell hi1
  have hfro := hrow.frozen i
  have hm2 := hm1.setByte hk i hi1 v v0 v1
  rw [ha, setP_pg0] at hm2
  have hb2 : But F w (w1.setCell ⟨k, i, none⟩ (.int .u8 v)) := hbut.setCell (a := ⟨k, i, none⟩) (fun h => by rcases hF1 k hFk with h2 | h2; exact h2; exact absurd h (by show ¬ k < _; omega)) _
  clear hm1 hrow hm hbut
  go_wp2
  go_end0
  exact ⟨F', pt', D', rfl, hF1, hm2, hb2⟩

/-- a page from a place on -/
theorem slice_page (k l : Nat) (hl : l < 4096) (w : World) :
    (Instr.sliceAt 65 (.pointer (some ⟨k, 0, none⟩)) (some (.int .i64 (l : Int))) none none).run Try.prog w = .ok (.slice (some ⟨k, l, none⟩) (4096 - l) (4096 - l)) w := by
  have hA : Try.prog.arrayLen 65 = 4096 := by kernel_rfl
  have hE : Try.prog.elem 65 = 5 := by kernel_rfl
  have hz : (sizeOf 5).run Try.prog w = .ok 1 w := by kernel_rfl
  have h := run_sliceAt_array_l (P := Try.prog) w 65 ⟨k, 0, none⟩ (by rw [hA, hE]; exact Try.underlying65) .i64 (l : Int) (by omega) (by rw [hA]; omega)
  rw [h, hA, hE, hz]
  simp only [Result.andThen, slicedAt, Int.toNat_natCast]
  rw [if_neg (by omega)]
  congr 3
  unfold Addr.add
  split
  · simp
    try omega
  · simp

/-- copy, where the cells are known one by one -/
theorem wpList_copy_cells {P : Program} {w : World} {ops : Array Oper} {rest : List Oper} {o : Oper} {a : Act} {Q : Exit → Act → World → Prop} (hgd : o.guard = none) (d s : Operand) (dT sT : TypeId)
    (ho : o.op = .call { callee := .builtin .copy, args := #[d, s], argTypes := #[dT, sT] }) (elem : TypeId) (hu : P.underlying dT = some (.slice elem)) (hsz : (P.info? elem).map (·.size) = some 1)
    (da sa : Addr) (dLen dCap sLen sCap : Nat) (hd : a.eval d = .slice (some da) dLen dCap) (hs : a.eval s = .slice (some sa) sLen sCap) (b off : Nat) (hda : da = ⟨b, off, none⟩)
    (cs : List Value) (hn : cs.length = Nat.min sLen dLen) (hsrc : ∀ j v, cs[j]? = some v → w.cell? (sa.add j) = some v)
    (hc : ∀ j, j < cs.length → (w.cell? ⟨b, off + j, none⟩).isSome = true) (hf : ∀ j, j < cs.length → w.frozen? ⟨b, off + j, none⟩ = false) (h1 : ∀ v ∈ cs, v.oneCell' = true)
    (h : wpList P ops Q rest (a.put o.dst (goInt cs.length)) (w.setCells b off cs)) : wpList P ops Q (o :: rest) a w := by
  subst hda
  refine wpList_plain hgd fun K hK => ?_
  have hrun := run_copy_cells (P := P) w dT sT o.type elem b off dLen dCap sa sLen sCap cs hu hsz hn hsrc hc hf h1
  unfold Oper.wp
  simp [execOp, ho, resolve, invoke, builtin, hd, hs, hrun, Result.andThen]
  exact hK _ _ h

def bytesOf (f : Nat → Int) (c : Nat) : List Value := (List.range c).map fun j => .int .u8 (f j)
theorem bytesOf_len (f : Nat → Int) (c : Nat) : (bytesOf f c).length = c := by simp [bytesOf]
theorem bytesOf_at {f : Nat → Int} {c j : Nat} {v : Value} (h : (bytesOf f c)[j]? = some v) : j < c ∧ v = .int .u8 (f j) := by
  simp only [bytesOf, List.getElem?_map, Option.map_eq_some_iff] at h
  obtain ⟨x, h1, rfl⟩ := h
  rw [List.getElem?_eq_some_iff] at h1
  obtain ⟨h2, rfl⟩ := h1
  simp at h2 ⊢
  exact h2
theorem bytesOf_one {f : Nat → Int} {c : Nat} (v : Value) (h : v ∈ bytesOf f c) : v.oneCell' = true := by
  simp only [bytesOf, List.mem_map] at h
  obtain ⟨j, _, rfl⟩ := h
  simp [Value.oneCell']
theorem bytesOf_succ (f : Nat → Int) (c : Nat) : bytesOf f (c + 1) = .int .u8 (f 0) :: bytesOf (fun j => f (j + 1)) c := by
  simp [bytesOf, List.range_succ_eq_map, Function.comp_def]
/-- c numbers laid over g from x on -/
def blitG (g : Int → Int) (x : Int) (f : Nat → Int) (c : Nat) : Int → Int := fun y => if x ≤ y ∧ y < x + (c : Int) then f (y - x).toNat else g y
theorem blitG_zero (g : Int → Int) (x : Int) (f : Nat → Int) : blitG g x f 0 = g := by
  funext y
  unfold blitG
  rw [if_neg (by omega)]
theorem blitG_head (g : Int → Int) (x : Int) (f : Nat → Int) (c : Nat) : blitG (setG g x (f 0)) (x + 1) (fun j => f (j + 1)) c = blitG g x f (c + 1) := by
  funext y
  simp only [blitG, setG]
  by_cases h : x + 1 ≤ y ∧ y < x + 1 + (c : Int)
  · rw [if_pos h, if_pos (by omega), show (y - x).toNat = (y - (x + 1)).toNat + 1 by omega]
  · rw [if_neg h]
    by_cases h2 : y = x
    · subst h2
      rw [if_pos rfl, if_pos (by omega), show (y - y).toNat = 0 by omega]
    · rw [if_neg h2, if_neg (by omega)]
theorem blitG_tail (g : Int → Int) (x : Int) (f : Nat → Int) (c : Nat) : blitG g x f (c + 1) = setG (blitG g x f c) (x + (c : Int)) (f c) := by
  funext y
  simp only [blitG, setG]
  by_cases h2 : y = x + (c : Int)
  · subst h2
    rw [if_pos rfl, if_pos (by omega), show (x + (c : Int) - x).toNat = c by omega]
  · rw [if_neg h2]
    by_cases h : x ≤ y ∧ y < x + (c : Int)
    · rw [if_pos h, if_pos (by omega)]
    · rw [if_neg h, if_neg (by omega)]
theorem PAt.setBytes {F : Nat → Prop} {p B : Nat} {pg : Int → Bool} {pt : Int → Option Nat} {D : DataW Unit} {q : Int} {k : Nat} (hk : pt q = some k) : ∀ (c i : Nat) (f : Nat → Int) (w : World) (g : Int → Int), PAt w p F g pg pt B D → i + c ≤ 4096 → (∀ j, j < c → 0 ≤ f j ∧ f j < 256) →
    PAt (w.setCells k i (bytesOf f c)) p F (blitG g (q + i) f c) pg pt B D
  | 0, i, f, w, g, h, _, _ => by rw [blitG_zero]; exact h
  | c + 1, i, f, w, g, h, hi, hf => by
    rw [bytesOf_succ]
    have h1 := h.setByte hk i (by omega) (f 0) (hf 0 (by omega)).1 (hf 0 (by omega)).2
    have h2 := PAt.setBytes hk c (i + 1) (fun j => f (j + 1)) _ _ h1 (by omega) (fun j hj => hf (j + 1) (by omega))
    rw [show q + ((i + 1 : Nat) : Int) = q + (i : Int) + 1 by omega, blitG_head] at h2
    exact h2
theorem But.setCells {F : Nat → Prop} {w : World} {k : Nat} (hk : k < w.heap.size → F k) : ∀ (cs : List Value) (i : Nat) (w' : World), But F w w' → But F w (w'.setCells k i cs)
  | [], _, _, h => h
  | v :: r, i, _, h => But.setCells hk r (i + 1) _ (h.setCell (a := ⟨k, i, none⟩) hk v)
theorem size_setCells (k : Nat) : ∀ (cs : List Value) (i : Nat) (w : World), (w.setCells k i cs).heap.size = w.heap.size
  | [], _, _ => rfl
  | v :: r, i, w => by rw [World.setCells, size_setCells k r]; simp
theorem place_add (a : Int) (i c : Nat) (h : place a i + (c : Int) < 4294967296) : place a (i + c) = place a i + (c : Int) := by unfold place at *; omega
theorem blit_write (g : Int → Int) (a : Int) (bs : Nat → Int) (i : Nat) : ∀ c : Nat, place a i + (c : Int) ≤ 4294967296 → blitG (writeG g a bs i) (place a i) (fun j => bs (i + j)) c = writeG g a bs (i + c)
  | 0, _ => by rw [blitG_zero]; rfl
  | c + 1, h => by
    rw [blitG_tail, blit_write g a bs i c (by omega), ← place_add a i c (by omega)]
    rfl
theorem setP_same (pg : Int → Bool) (x y : Int) (h : x / 4096 = y / 4096) : setP (setP pg x) y = setP pg x := by
  funext z
  unfold setP
  rw [h]
  cases (z == y / 4096 * 4096) <;> rfl
theorem page_write (pg : Int → Bool) (a : Int) (i : Nat) : ∀ c : Nat, place a i % 4096 + ((c + 1 : Nat) : Int) ≤ 4096 → writeP pg a (i + (c + 1)) = setP (writeP pg a i) (place a i)
  | 0, _ => rfl
  | c + 1, h => by
    have ih := page_write pg a i c (by omega)
    have h0 : 0 ≤ place a i := by unfold place; omega
    have h1 : place a i < 4294967296 := by unfold place; omega
    show setP (writeP pg a (i + (c + 1))) (place a (i + (c + 1))) = _
    rw [ih, setP_same]
    rw [place_add a i (c + 1) (by omega)]
    omega
end Go.Proofs.Ytkmoefgoolhegaa
