/- A clone of the landed memory. -/
import Derived.Test.YtglcbhfkoigedaaMem
import Derived.Maps.RangeWalk
import Derived.Deep.WholeRow
namespace Go.Proofs.Ytglcbhfkoigedaa
open Go.ChangeShapes Go.WideShapes Go.ChangeAt Go.RowKit Go.Maps Go.Deep

/-- the bytes of a page are laid -/
def pageG (g : Int → Int) (q : Int) (f : Nat → Int) : Int → Int := fun a => if q ≤ a ∧ a < q + 4096 then f (a - q).toNat else g a
/-- A page that wasn't there is laid into the map. -/
theorem PAt.add {F : Nat → Prop} {w w1 : World} {p B : Nat} {g : Int → Int} {pg : Int → Bool} {pt : Int → Option Nat} {D : DataW Unit} (hm : PAt w p F g pg pt B D) (q : Int) (q0 : q % 4096 = 0) (q1 : 0 ≤ q) (q2 : q < 4294967296) (hp : pt q = none)
    (hb : Below w.heap.size w w1) (f : Nat → Int) (hf : ∀ i, 0 ≤ f i ∧ f i < 256) (hrow : w1.rowIs w.heap.size 61 4096 (fun i => .int .u8 (f i))) (hs1 : w1.heap.size = w.heap.size + 1) :
    ∃ w2, (Instr.mapUpdate 46 (.map (some B)) (.int .u32 q) (.pointer (some ⟨w.heap.size, 0, none⟩))).run Try.prog w1 = .ok () w2 ∧ w1.grownBy w2 (some B) ∧
      PAt w2 p (fun j => F j ∨ j = w.heap.size) (pageG g q f) (setP pg q) (setPt pt q w.heap.size) B (D.put (.int .u32 q) (.lit (.int .i64 (codeOf (some w.heap.size))))) := by
  have hq : q / 4096 * 4096 = q := by omega
  have hm1 := hm.below hb
  have hsz : Maps.size D < maxLen := by
    obtain ⟨N, hN, h1, _⟩ := hm.size
    have := cnt_le pt N
    unfold maxLen
    omega
  obtain ⟨w2, hrun, hmap, hturn⟩ := hm1.map.store key_u32 Try.underlying46 hsz (key_page q q1 q2) (ptrElem_of (some w.heap.size))
  simp only [ptrOf] at hrun
  have hgr := hturn.grown
  have hb1 : But (· = B) w1 w2 := But.of_grown hgr
  have hhas : Maps.has D (.int .u32 q) = false := by rw [hm.has q, hp]; rfl
  have htidy := hm.map.tidy key_u32
  have hsize : Maps.size (D.put (.int .u32 q) (.lit (.int .i64 (codeOf (some w.heap.size))))) = Maps.size D + 1 := by rw [Maps.size_put htidy, hhas]; simp
  have hB : B < w.heap.size := hm.lt _ hm.selfB
  have hPP : p < w.heap.size := hm.lt _ hm.self
  have hkl : WideAt.IsKeyLit (.int .u32 q) := by simp [WideAt.IsKeyLit]
  refine ⟨w2, hrun, hgr, hb1.cell hm1.cell hm.ne, by rw [hsize]; exact hmap, fun x x0 x1 => ?_, fun x => ?_, ?_, fun x k hk => ?_, fun x x' k hk hk' => ?_, fun a ha => ?_, fun x => ?_, fun a => ?_, .inl hm.self, .inl hm.selfB, hm.ne, ?_⟩
  · unfold setPt
    by_cases hx : x = q
    · subst hx
      rw [if_pos rfl]
      exact atKey_put_same (hm.map.isMap) hkl _ _
    · rw [if_neg hx, atKey_put_other (by simpa using hx) _ _]
      exact hm.at_ x x0 x1
  · unfold setPt
    by_cases hx : x = q
    · subst hx
      rw [if_pos rfl]
      exact has_put_same (hm.map.isMap) hkl _
    · rw [if_neg hx, has_put_other (by simpa using hx) _]
      exact hm.has x
  · obtain ⟨N, n0, n1, n2⟩ := hm.size
    obtain ⟨y, hy⟩ : ∃ y : Nat, q = (y : Int) * 4096 := ⟨(q / 4096).toNat, by omega⟩
    have := cnt_set pt y w.heap.size (by rw [← hy]; exact hp) N
    rw [← hy, if_pos (by omega)] at this
    exact ⟨N, n0, by rw [hsize, this]; omega, n2⟩
  · unfold setPt at hk
    by_cases hx : x = q
    · subst hx
      rw [if_pos rfl] at hk
      injection hk with hk
      subst hk
      refine ⟨⟨q0, q1, q2⟩, .inr rfl, by omega, by omega, ?_⟩
      have h2 := hrow.of_block (hb1.block w.heap.size (by omega) (by omega))
      refine h2.congr (fun i hi => ?_)
      unfold pageG
      rw [if_pos (by omega), show (x + (i : Int) - x).toNat = i by omega]
    · rw [if_neg hx] at hk
      obtain ⟨r0, r1, r2, r3, r4⟩ := hm1.page x k hk
      refine ⟨r0, .inl r1, r2, r3, (r4.of_block (hb1.block k (hm1.lt k r1) r3)).congr (fun i hi => ?_)⟩
      unfold pageG
      rw [if_neg (by omega)]
  · unfold setPt at hk hk'
    by_cases hx : x = q
    · by_cases hx' : x' = q
      · rw [hx, hx']
      · rw [if_pos hx] at hk
        rw [if_neg hx'] at hk'
        injection hk with hk
        have := hm.lt k (hm.page x' k hk').2.1
        omega
    · rw [if_neg hx] at hk
      by_cases hx' : x' = q
      · rw [if_pos hx'] at hk'
        injection hk' with hk'
        have := hm.lt k (hm.page x k hk).2.1
        omega
      · rw [if_neg hx'] at hk'
        exact hm.apart x x' k hk hk'
  · unfold setPt at ha
    split at ha
    · cases ha
    · rename_i hne
      unfold pageG
      rw [if_neg (by omega)]
      exact hm.none_ a ha
  · unfold setP setPt
    rw [hq, hm.pgs x]
    by_cases hx : x = q
    · simp [hx]
    · simp [hx]
  · unfold pageG
    split
    · exact hf _
    · exact hm.byte a
  · have h2 := hb1.size
    rintro j (h | rfl)
    · have := hm.lt j h; omega
    · omega
/-- a whole variable is read -/
theorem wpList_load_eq {P : Program} {w : World} {ops : Array Oper} {rest : List Oper} {o : Oper} {a : Act} {Q : Exit → Act → World → Prop} (hgd : o.guard = none) (t : TypeId) (x : Operand) (hop : o.op = Op.load t x) (v : Value) (pv : Value) (hx : a.eval x = pv)
    (hrun : (Instr.loadAt t pv).run P w = .ok v w) (h : wpList P ops Q rest (a.put o.dst v) w) : wpList P ops Q (o :: rest) a w := by
  refine wpList_plain hgd fun K hK => ?_
  unfold Oper.wp
  simp [execOp, hop, hx, hrun, Result.andThen]
  exact hK _ _ h
/-- a whole variable is written -/
theorem wpList_store_eq {P : Program} {w w' : World} {ops : Array Oper} {rest : List Oper} {o : Oper} {a : Act} {Q : Exit → Act → World → Prop} (hgd : o.guard = none) (t : TypeId) (x y : Operand) (hop : o.op = Op.store t x y) (pv v : Value) (hx : a.eval x = pv) (hy : a.eval y = v)
    (hrun : (Instr.storeAt t pv v).run P w = .ok () w') (h : wpList P ops Q rest (a.put o.dst undef) w') : wpList P ops Q (o :: rest) a w := by
  refine wpList_plain hgd fun K hK => ?_
  unfold Oper.wp
  simp [execOp, hop, hx, hy, hrun, Result.andThen]
  exact hK _ _ h
theorem code_inj {c d : Option Nat} (h : codeOf c = codeOf d) : c = d := by
  cases c <;> cases d <;> simp [codeOf] at h ⊢ <;> omega
set_option maxRecDepth 100000 in
set_option maxHeartbeats 4000000 in
theorem mclone0_any (p : Nat) (F : Nat → Prop) (g : Int → Int) (pg : Int → Bool) (pt : Int → Option Nat) (B : Nat) (D : DataW Unit) (w : World) (hm : PAt w p F g pg pt B D) :
    Calls Try.prog 19 #[.pointer (some ⟨p, 0, none⟩)] w fun e w' => ∃ (q : Nat) (F' : Nat → Prop), e = .returned (.pointer (some ⟨q, 0, none⟩)) ∧ (∀ k, F' k → w.heap.size ≤ k) ∧ PMem w' q F' g pg ∧ Below w.heap.size w w' := by
  obtain ⟨z, hz, hnew⟩ := alloc_page
  go_enter Try.func19, Try.ntmps19
  go_wp2_with fail
  refine (mnew0_any _).mono ?_
  rintro e w1 ⟨q, F1, B1, rfl, hF1, hq1, hb1⟩
  have hm1 := hm.below hb1
  have hc1 := hm1.cell
  have hB := hm.lt _ hm.selfB
  go_wp2_with (first
    | (at_range; refine wpList_range_own _ rfl _ 46 rfl 29 54 key_u32 Try.underlying46 _ B _ _ rfl hm1.map ?_; intro w2 hrg0 hg0 hs0)
    | go_in)
  have hb2 : Below w.heap.size w w2 := hb1.grown hg0 hb1.size (fun _ h => by cases h)
  have hq2 : PAt w2 q F1 (fun _ => 0) (fun _ => false) (fun _ => none) B1 (.map []) := hq1.below ((Below.refl _ w1).grown hg0 (Nat.le_refl _) (fun _ h => by cases h))
  have hwr : w.heap.size ≤ w1.heap.size := hb1.size
  have hF1r : ∀ k, F1 k → k < w1.heap.size := fun k hk => hq1.lt k hk
  have HM := Lib.hid hm
  clear hm1 hc1 hq1 hg0 hb1
  generalize w1.heap.size = r at *
  go_frame
  go_loopw [4] (fun _ wr => ∃ (left : Lit → Bool) (c : Nat) (F' : Nat → Prop) (g' : Int → Int) (pg' : Int → Bool) (pt' : Int → Option Nat) (B' : Nat) (D' : DataW Unit), wr.ranges Try.prog 29 ptrElem B r (Maps.size D) D left c ∧ PAt wr q F' g' pg' pt' B' D' ∧ (∀ k, F' k → w.heap.size ≤ k ∧ k ≠ r) ∧ r < wr.heap.size ∧ Below w.heap.size w wr ∧
      (∀ x, (pt' x).isSome = (Maps.has D (.int .u32 x) && !left (.int .u32 x))) ∧ (∀ a, g' a = if (pt' (a / 4096 * 4096)).isSome then g a else 0))
    (fun _ wr => wr.rangeLeft B r)
  case atStart => exact ⟨_, _, F1, _, _, _, B1, _, hrg0, hq2, fun k hk => ⟨hF1 k hk, by have := hF1r k hk; omega⟩, by omega, hb2, fun x => by simp, fun a => by simp⟩
  case round =>
    obtain ⟨left, c, F', g', pg', pt', B', D', hrg, hq, hF', hrw, hbw, hpt, hg'⟩ := hrel
    go_wp2_with (first
      | (at_next; refine wpList_next_ranges _ rfl _ rfl 29 key_u32 ptrElem (Value.int .u32) ptrOf (fun key kl hk => by obtain ⟨x, hx, _⟩ := Maps.keyOf_int_inv Try.underlying29 hk; exact ⟨x, hx⟩) (fun v y hy => by unfold ptrElem at hy; split at hy; exact ⟨none, rfl⟩; exact ⟨some _, rfl⟩; cases hy) B r _ _ _ _ rfl hrg ?_ ?_)
      | go_in)
    · intro hc0 hl0
      have hfin : PMem wr q F' g pg := by
        have e1 : g' = g := by
          funext a
          rw [hg' a, hpt, hl0]
          by_cases h : pt (a / 4096 * 4096) = none
          · rw [HM.out.none_ a h]; simp
          · rw [HM.out.has]
            cases h2 : pt (a / 4096 * 4096) with
            | none => exact absurd h2 h
            | some k => simp
        have e2 : pg' = pg := by
          funext x
          rw [hq.pgs x, hpt, hl0, HM.out.pgs x, HM.out.has x]
          simp
        rw [← e1, ← e2]
        exact ⟨pt', B', D', hq⟩
      have HFIN := Lib.hid hfin
      have HF' := Lib.hid hF'
      clear hfin hpt hg' hF' hq hrg hl0
      go_wp2_with fail
      go_ret
      exact ⟨q, F', rfl, fun k hk => (HF'.out k hk).1, HFIN.out, hbw⟩
    · intro x cv kl yd yp w3 c2 hkey hlk hv hat hrg3 hlt hg3 hs3 hen
      obtain ⟨x', ex, rfl, hwf⟩ := Maps.keyOf_int_inv Try.underlying29 hkey
      obtain rfl : x = x' := by injection ex
      have hhx : Maps.has D (.int .u32 x) = true := Maps.has_true_of_atKey hat
      have hx0 : 0 ≤ x ∧ x < 4294967296 := by
        simp only [Lit.wf, Bool.and_eq_true, decide_eq_true_eq] at hwf
        have e1 : IntKind.u32.min = 0 := by decide
        have e2 : IntKind.u32.max = 4294967295 := by decide
        omega
      have hcv : cv = pt x := by
        have h1 := HM.out.at_ x hx0.1 hx0.2
        rw [hat] at h1
        rw [ptrElem_of] at hv
        injection hv with hv
        injection hv with hv _
        rw [h1] at hv
        injection hv with hv
        injection hv with _ hv
        exact code_inj hv
      have hsome : (pt x).isSome = true := by rw [← HM.out.has x]; exact hhx
      obtain ⟨k, hk⟩ := Option.isSome_iff_exists.1 hsome
      rw [hk] at hcv
      subst hcv
      simp only [ptrOf] at hen ⊢
      have hb3 : Below w.heap.size w w3 := hbw.grown hg3 hbw.size (fun j h => by cases h; omega)
      have hm3 := HM.out.below hb3
      obtain ⟨⟨q0, _, _⟩, _, _, _, hrow⟩ := hm3.page x k hk
      obtain ⟨cs, hcs, hcz, hcf⟩ := hrow
      have hload : (Instr.loadAt 61 (.pointer (some ⟨k, 0, none⟩))).run Try.prog w3 = .ok (.agg cs) w3 := by
        simp only [Instr.loadAt, Instr.sureAddr, Sem.run_bind, Sem.run_pure, Result.andThen]
        exact run_loadVar_row w3 k 61 61 cs (0, 0) _ hcs Try.underlying61 rfl (by rw [hcz]; kernel_rfl)
      have hzs : z.size = 4096 := by
        obtain ⟨c0, h1, h2, _⟩ := hnew w3
        rw [heap_alloc_last] at h1
        injection h1 with h1
        injection h1 with h1
        rw [h1]; exact h2
      have hone : cs.all (·.oneCell') = true := by
        rw [Array.all_eq_true]
        intro i hi
        have h1 := hcf i (by omega)
        rw [Array.getElem?_eq_getElem hi] at h1
        injection h1 with h1
        rw [h1]
        simp [Value.oneCell']
      have hstore : (Instr.storeAt 61 (.pointer (some ⟨w3.heap.size, 0, none⟩)) (.agg cs)).run Try.prog (w3.alloc (.cells z 61)) = .ok () (w3.alloc (.cells cs 61)) :=
        run_storeAt_new w3 61 z cs (by rw [hcz]; kernel_rfl) (by rw [hzs, hcz]) hone
      have hrowK : (w3.alloc (.cells cs 61)).rowIs w3.heap.size 61 4096 (fun i => .int .u8 (g (x + (i : Int)))) := ⟨cs, heap_alloc_last _ _, hcz, hcf⟩
      have hq3 := hq.but (But.of_grown hg3) (fun j hj => (hF' j hj).2)
      have hptx : pt' x = none := by
        have := hpt x
        rw [hhx, hlk] at this
        simpa using this
      obtain ⟨w5, hrun, hgr, hq5⟩ := hq3.add x q0 hx0.1 hx0.2 hptx (below_last (Below.refl _ w3) (.cells cs 61)) (fun i => g (x + (i : Int))) (fun i => HM.out.byte _) hrowK (by simp)
      have hcq := (hq3.below (below_last (Below.refl _ w3) (.cells cs 61))).cell
      have hBB := hF' B' hq.selfB
      have hwz : w3.heap.size = wr.heap.size := hs3
      have hrg5 := (hrg3.alloc (.cells cs 61)).kept hgr (fun e => by injection e; omega) (fun e => by injection e with e; exact hBB.2 e.symm)
      have hb5 : Below w.heap.size w w5 := (hb3.alloc hb3.size (.cells cs 61)).grown hgr (by have := hb3.size; simp; omega) (fun j hj => by cases hj; exact hBB.1)
      have hsz5 := hgr.size
      have hpt5 : ∀ y, (setPt pt' x w3.heap.size y).isSome = (Maps.has D (.int .u32 y) && !(left (.int .u32 y) && !(Lit.int .u32 y).sameKey (.int .u32 x))) := fun y => by
        unfold setPt
        by_cases hy : y = x
        · subst hy
          rw [if_pos rfl, hhx]
          simp [Lit.sameKey]
        · rw [if_neg hy, hpt y]
          simp [Lit.sameKey, hy]
      have hg5 : ∀ a, pageG g' x (fun i => g (x + (i : Int))) a = if (setPt pt' x w3.heap.size (a / 4096 * 4096)).isSome then g a else 0 := fun a => by
        unfold pageG setPt
        by_cases ha : a / 4096 * 4096 = x
        · rw [if_pos (by omega), if_pos ha]
          simp only [Option.isSome_some, if_true]
          congr 1
          omega
        · rw [if_neg (by omega), if_neg ha]
          exact hg' a
      have HS3 := Lib.hid hs3
      have hr5 : r < w5.heap.size := by simp at hsz5; omega
      have hr3 : r < w3.heap.size := by omega
      have HRG := Lib.hid hrg5
      have HQ5 := Lib.hid hq5
      have HF' := Lib.hid hF'
      have HPT := Lib.hid hpt5
      have HG5 := Lib.hid hg5
      have HLE := Lib.hid hrg.left_eq
      clear hrg5 hq5 hpt hg' hq hq3 hm3 hrg hrg3 hpt5 hg5 hF' hcf hrowK hnew hone hptx hhx hsome hat hv hlk hwf hkey hs3 hwz hsz5
      go_wp2_with (first
        | (refine wpList_load_eq rfl 61 (.tmp 19) rfl (.agg cs) (.pointer (some ⟨k, 0, none⟩)) rfl hload ?_)
        | (refine wpList_store_eq rfl 61 (.tmp 6) (.tmp 20) rfl (.pointer (some ⟨w3.heap.size, 0, none⟩)) (.agg cs) rfl rfl hstore ?_))
      go_roundw
      case rel => exact ⟨_, c2, fun j => F' j ∨ j = w3.heap.size, _, _, _, B', _, HRG.out, HQ5.out, (by rintro j (h | rfl); exact HF'.out j h; exact ⟨by have := hb3.size; omega, by omega⟩), hr5, hb5, HPT.out, HG5.out⟩
      case measure => rw [HRG.out.left_eq, HLE.out]; exact hlt
theorem mclone_any (p : Nat) (F : Nat → Prop) (g : Int → Int) (pg : Int → Bool) (w : World) (hm : PMem w p F g pg) :
    Calls Try.prog 19 #[.pointer (some ⟨p, 0, none⟩)] w fun e w' => ∃ (q : Nat) (F' : Nat → Prop), e = .returned (.pointer (some ⟨q, 0, none⟩)) ∧ (∀ k, F' k → w.heap.size ≤ k) ∧ PMem w' q F' g pg ∧ Below w.heap.size w w' := by
  obtain ⟨pt, B, D, h⟩ := hm
  exact mclone0_any p F g pg pt B D w h
end Go.Proofs.Ytglcbhfkoigedaa
