/- Rows of instructions: append, read.; Instructions one behind another: All, the landed code's.; Instructions one behind another: All, the document's. -/
import Derived.Deep.DeepCutAuto
import Derived.Laws.AppendOwn
import Derived.Laws.OwnMore
import Derived.Below
import Derived.KernelRfl
import Derived.Test.YtlhfpfiehgcciaaKTW
import Derived.Test.YtlhfpfiehgcciaaKTX
namespace Go.Proofs.Ytlhfpfiehgcciaa
open Go.ChangeShapes Go.WideShapes Go.ChangeAt Go.RowKit

/-- the cells of an instruction -/
def inI (i : Ins) : List Value := [.int .i64 i.op, .int .i64 i.cond, .int .i64 i.size, .int .i64 i.a.kind, .int .i64 i.a.reg, .int .i64 i.a.base, .int .i64 i.a.index, .int .i64 i.a.scale, .int .u32 i.a.disp, .int .i64 i.b.kind, .int .i64 i.b.reg, .int .i64 i.b.base, .int .i64 i.b.index, .int .i64 i.b.scale, .int .u32 i.b.disp, .int .u32 i.c, .bool i.rep, .int .i64 i.len]
def rowI (l : List Ins) : List Value := l.flatMap inI
theorem rowI_snoc (l : List Ins) (o : Ins) : rowI (l ++ [o]) = rowI l ++ inI o := by
  unfold rowI
  rw [List.flatMap_append]
  simp
theorem rowI_at : ∀ (l : List Ins) (k : Nat) (h : k < l.length) (j : Nat), j < 18 → (rowI l)[k * 18 + j]? = (inI l[k])[j]?
  | o :: l, 0, _, j, hj => by
    show (inI o ++ rowI l)[0 * 18 + j]? = _
    rw [Nat.zero_mul, Nat.zero_add, List.getElem?_append_left (by show j < 18; exact hj)]
    rfl
  | o :: l, k + 1, h, j, hj => by
    have hl : (inI o).length = 18 := rfl
    show (inI o ++ rowI l)[(k + 1) * 18 + j]? = _
    rw [List.getElem?_append_right (by rw [hl]; omega), hl, show (k + 1) * 18 + j - 18 = k * 18 + j by omega, rowI_at l k (by simpa using h) j hj]
    rfl
theorem info_insA : (Try.prog.info? 33).map (fun i => (i.zero.map (·.cells.size), i.size, decide (i.bytes ≤ 200))) = some (some 18, 18, true) := by kernel_rfl
/-- a row of instructions that the call owns -/
def OwnI (w : World) (base : Nat) (v : Value) (l : List Ins) : Prop := w.ownsRow base 33 18 v l.length (rowI l)
theorem OwnI.nil (w : World) (base : Nat) : OwnI w base (.slice none 0 0) [] := World.ownsRow_nil w base _ 18
theorem OwnI.below {w w' : World} {base : Nat} {v : Value} {l : List Ins} (h : OwnI w base v l) (hb : Below w.heap.size w w') : OwnI w' base v l := by
  obtain ⟨h1, h2⟩ := h
  refine ⟨h1, ?_⟩
  rcases h2 with h2 | ⟨g, cap, cur, e1, e2, e3, e4⟩
  · exact .inl h2
  · refine .inr ⟨g, cap, cur, e1, e2, ?_, e4⟩
    rw [hb.block g (Array.getElem?_eq_some_iff.1 e3).1]
    exact e3
theorem OwnI.ge {w : World} {base : Nat} {v : Value} {l : List Ins} (h : OwnI w base v l) (k : Nat) (hk : v.ownBlock = some k) : base ≤ k := (World.ownsRow.lt h k hk).1
theorem OwnI.len {w : World} {base : Nat} {v : Value} {l : List Ins} (h : OwnI w base v l) : ∃ a cap, v = .slice a l.length cap := by
  rcases h.2 with ⟨rfl, e⟩ | ⟨g, cap, cur, e1, _⟩
  · exact ⟨none, 0, by rw [e]⟩
  · exact ⟨_, cap, e1⟩
/-- one more instruction -/
theorem append_ins {w : World} {ops : Array Oper} {rest : List Oper} {o : Oper} {a : Act} {Q : Exit → Act → World → Prop} (hg : o.guard = none) (s x : Operand)
    (hop : o.op = Op.call { callee := Callee.builtin Builtin.append, args := #[s, x], argTypes := #[37, 37] })
    (base : Nat) (v : Value) (l : List Ins) (hs : a.eval s = v) (hown : OwnI w base v l) (B : Nat) (q : Ins) (hx : a.eval x = .slice (some ⟨B, 0, none⟩) 1 1)
    (hr : w.rangeAt B 0 (inI q)) (hn : l.length ≤ 100000000) (hb : base ≤ w.heap.size)
    (hK : ∀ v' w', OwnI w' base v' (l ++ [q]) → (∀ W n, n ≤ base → Below n W w → n ≤ w.heap.size → Below n W w') → (∀ k, k < w.heap.size → v.ownBlock ≠ some k → w'.heap[k]? = w.heap[k]?) → w.heap.size ≤ w'.heap.size → wpList Try.prog ops Q rest (a.put o.dst v') w') : wpList Try.prog ops Q (o :: rest) a w := by
  obtain ⟨i0, hi, hz, hsz, hby⟩ : ∃ i0, Try.prog.info? 33 = some i0 ∧ i0.zero.map (·.cells.size) = some 18 ∧ i0.size = 18 ∧ i0.bytes ≤ 200 := by
    have h := info_insA
    cases hi : Try.prog.info? 33 with
    | none => rw [hi] at h; cases h
    | some i0 =>
      rw [hi] at h
      simp only [Option.map_some, Option.some.injEq, Prod.mk.injEq, decide_eq_true_eq] at h
      exact ⟨i0, rfl, h.1, h.2.1, h.2.2⟩
  obtain ⟨z, hz0, hz1⟩ : ∃ z, i0.zero = some z ∧ z.cells.size = 18 := by
    cases hzz : i0.zero with
    | none => rw [hzz] at hz; cases hz
    | some z => rw [hzz] at hz; exact ⟨z, rfl, by simpa using hz⟩
  have hbytes : (l.length + 1) * i0.bytes ≤ 140737488355328 := Nat.le_trans (Nat.mul_le_mul_left _ hby) (by omega)
  refine wpList_append_own w hg s x 37 hop base 33 i0 z 18 i0.bytes Try.underlying37 hi hz0 hsz rfl hz1 (by decide) v l.length (rowI l) hs hown ⟨B, 0, none⟩ 1 1 (inI q) hx rfl ?_ ?_ (by unfold maxLen; omega) hbytes hb ?_
  · intro j u hj
    rw [addr_add]
    exact hr j u hj
  · intro u hu
    unfold inI at hu
    simp only [List.mem_cons, List.not_mem_nil, or_false] at hu
    rcases hu with rfl | rfl | rfl | rfl | rfl | rfl | rfl | rfl | rfl | rfl | rfl | rfl | rfl | rfl | rfl | rfl | rfl | rfl <;> rfl
  · intro v' w' ho hgr _
    refine hK v' w' ?_ ?_ (fun k hk hne => hgr.block k hk (fun e => hne e.symm)) hgr.size
    · unfold OwnI
      rw [rowI_snoc, List.length_append]
      exact ho
    · intro W n hnb hW hnw
      exact hW.grown hgr hnw (fun k hk => Nat.le_trans hnb (OwnI.ge hown k hk))
/-- an instruction of a row -/
theorem OwnI.at_ {w : World} {base : Nat} {g cap : Nat} {l : List Ins} (h : OwnI w base (.slice (some ⟨g, 0, none⟩) l.length cap) l) (k : Nat) (hk : k < l.length) : w.rangeAt g (k * 18) (inI l[k]) := fun j v hj => by
  have hj18 : j < 18 := (List.getElem?_eq_some_iff.1 hj).1
  have := World.ownsRow.cellAt h (k * 18 + j) (by omega)
  rw [this, rowI_at l k hk j hj18]
  exact hj
end Go.Proofs.Ytlhfpfiehgcciaa
namespace Go.Proofs.Ytlhfpfiehgcciaa
open Go.ChangeShapes Go.WideShapes Go.ChangeAt Go.RowKit

/-- what All answers: the instructions, the place, the error -/
def AllR (w : World) (x : List Ins × Nat × Int) (e : Ending) (w' : World) : Prop := ∃ r, e = .returned (.tuple #[r, .int .i64 (x.2.1 : Int), .int .i64 x.2.2]) ∧ OwnI w' w.heap.size r x.1 ∧ Below w.heap.size w w'
theorem ins_block {w : World} {g : Nat} {i : Ins} {u : World} (hr : w.rangeAt g 0 (insL i)) (h : u.heap[g]? = w.heap[g]?) : u.rangeAt g 0 (insL i) := fun j v hj => by
  rw [World.cell?_of_block (a := ⟨g, 0 + j, none⟩) h]
  exact hr j v hj
theorem fold_ins (i : Ins) : List.foldl (fun (cs : Array Value) (x : Value × Nat) => cs.setIfInBounds x.snd x.fst) zeroA (insL i).zipIdx = (insL i).toArray := by kernel_rfl
theorem range_fold (w : World) (i : Ins) (T : TypeId) : (w.alloc (.cells (List.foldl (fun (cs : Array Value) (x : Value × Nat) => cs.setIfInBounds x.snd x.fst) zeroA (insL i).zipIdx) T)).rangeAt w.heap.size 0 (inI i) := by
  rw [fold_ins]
  exact fun j v hj => by
    rw [Nat.zero_add, World.cell?_alloc_new]
    simpa using (show (insL i)[j]? = some v from hj)
theorem OwnI.notat {w : World} {base : Nat} {v : Value} {l : List Ins} (h : OwnI w base v l) (k : Nat) (hk : w.heap.size ≤ k) : v.ownBlock ≠ some k := fun e => by
  have := (World.ownsRow.lt h k e).2
  omega
set_option maxRecDepth 100000 in
set_option maxHeartbeats 8000000 in
theorem dall_any (v : Value) (L : Nat) (bs : Nat → Int) (hb : ∀ i, 0 ≤ bs i ∧ bs i < 256) (hL : L ≤ 1000000) (w : World) (hs : Slc .u8 w v L bs) :
    Calls Try.prog 14 #[v] w (AllR w (allF L bs)) := by
  obtain ⟨x, cap, rfl⟩ := hs.len
  have HS := Lib.hid hs
  have HI := Lib.hid hb
  obtain ⟨res, hres⟩ : ∃ r, r = allF L bs := ⟨_, rfl⟩
  rw [← hres]
  have HR := Lib.hid hres
  clear hs hb hres
  go_enter Try.func14, Try.ntmps14
  go_wp2_with fail
  go_loopw [5, 6] (fun v5 v6 wr => ∃ (n k : Nat) (l : List Ins), AllAt L bs n k l ∧ v6 = .int .i64 k ∧ OwnI wr w.heap.size v5 l ∧ Below w.heap.size w wr) (fun _ v6 _ => L - (intOf v6).toNat)
  case atStart => exact ⟨_, 0, [], all_start L bs, rfl, OwnI.nil _ _, Below.refl _ _⟩
  case round =>
    obtain ⟨n, k, l, hat, rfl, hown, hbr⟩ := hrel
    have hkL : k ≤ L := hat.le
    have HA := Lib.hid hat
    have HO := Lib.hid hown
    have HB := Lib.hid hbr
    clear hat hown hbr
    by_cases hlt : k < L
    · have hd1 : decide ((k : Int) < (L : Int)) = true := by simp; omega
      have hv : ∃ ad, x = some ad ∧ L ≤ cap ∧ ∀ i, i < L → w.cell? (ad.add i) = some (.int .u8 (bs i)) := by
        rcases HS.out with ⟨_, h0⟩ | ⟨ad, c', he, hl, hc⟩
        · omega
        · injection he with e1 e2 e3
          subst e1 e3
          exact ⟨ad, rfl, hl, hc⟩
      obtain ⟨ad, rfl, hlc, hcs⟩ := hv
      have hst := fun W => slice_tail ad L cap k (k : Int) rfl hkL W
      have HSL := Lib.hid ((slc_tail hcs hlc k hkL).below HB.out)
      clear hcs
      obtain ⟨⟨I, E⟩, hx⟩ : ∃ y, y = oneF (L - k) (fun i => bs (k + i)) := ⟨_, rfl⟩
      have HD := Lib.hid (done_any _ (L - k) (fun i => bs (k + i)) (fun i => HI.out (k + i)) (by omega) wr HSL.out)
      rw [← hx] at HD
      have HX := Lib.hid hx
      clear hx HSL
      go_wp2_with fail
      refine HD.out.mono ?_
      rintro e w1 ⟨rfl, b'⟩
      unfold insR
      have HL := Lib.hid ((Lies.none HB.out).on b')
      have HO1 := Lib.hid (HO.out.below b')
      clear b' HD HO HB
      have HT1 := Lib.hid (there_alloc_new w1 zeroA 33 18 (by decide))
      by_cases he : E = 0
      · subst he
        obtain ⟨m, hm, m1, mL, hnx⟩ := all_next HI.out HA.out hlt HX.out.symm
        obtain ⟨op, cd, sz, oa, ob, oc, rp, ln⟩ := I
        obtain rfl : ln = (m : Int) := hm
        obtain ⟨I, hI⟩ : ∃ I : Ins, I = ⟨op, cd, sz, oa, ob, oc, rp, (m : Int)⟩ := ⟨_, rfl⟩
        rw [← hI] at hnx ⊢
        have HIe := Lib.hid hI
        have HNX := Lib.hid hnx
        have hkm : IntKind.i64.wrap ((k : Int) + (m : Int)) = (k : Int) + (m : Int) := by rw [IntKind.wrap_i64]; omega
        clear hI hnx
        have hl18 : (insL I).length = 18 := rfl
        go_wp2_with (first
          | (refine store_ins rfl (.tmp 7) (.tmp 18) rfl w1.heap.size rfl I rfl HT1.out ?_; intro Y1 hY hl; have HP := Lib.hid (HL.out.put zeroA 33 (insL I) (Nat.le_refl 18) _ rfl Y1 hY); have HO2 := Lib.hid (HO1.out.below (show Below w1.heap.size w1 Y1 by rw [hY]; exact below_setCells (Nat.le_refl _) _ _ _ (below_last (Below.refl _ _) _))); clear hY hl)
          | (refine wpList_load_mid rfl 33 (.tmp 7) rfl w1.heap.size 0 rfl (insL I) _ (HP.out.at_ _ _ (by simp)) Try.underlying33 rfl info_ins ?_)
          | (at_builtin; refine append_ins rfl (.tmp 24) (.tmp 26) rfl w.heap.size u5 l rfl (HO2.out.below (below_last (Below.refl _ _) _)) Y1.heap.size I rfl (range_fold Y1 I 33) (by have := HA.out.few; omega) (by have := HP.out.below.size; simp; omega) ?_; intro v5 w5 ho hb' hk' hs'; have HO3 := Lib.hid ho; have HB3 := Lib.hid (hb' w w.heap.size (Nat.le_refl _) (HP.out.alloc _).below (HP.out.alloc _).below.size); have hln := (ins_all (ins_block ((HP.out.alloc _).at_ w1.heap.size (insL I) (by simp)) (hk' w1.heap.size (by have := (HP.out.all _ (List.mem_singleton.2 rfl)).1; simp; omega) (HO1.out.notat _ (Nat.le_refl _))))).1.2.2.2.2; rw [HIe.out] at hln; dsimp only at hln; clear ho hb' hk' hs'))
        go_roundw
        case rel => exact ⟨n - 1, k + m, l ++ [I], HNX.out, by go_num, HO3.out, HB3.out⟩
        case measure => simp [intOf]; omega
      · have he1 : (E == 0) = false := by simpa using he
        go_wp2_with (refine store_ins rfl (.tmp 7) (.tmp 18) rfl w1.heap.size rfl I rfl HT1.out ?_; intro Y1 hY hl; have HP := Lib.hid (HL.out.put zeroA 33 (insL I) (Nat.le_refl 18) _ rfl Y1 hY); clear hY hl)
        have hr : res = ([], k, E) := HR.out.trans (by have := all_bad HA.out hlt (by rw [← HX.out]; exact he); rw [← HX.out] at this; exact this)
        go_returns
        exact ⟨_, by rw [hr]; rfl, by rw [hr]; exact OwnI.nil _ _, HP.out.below⟩
    · obtain rfl : k = L := by omega
      have hr : res = (l, 0, 0) := HR.out.trans (all_end HA.out rfl)
      go_wp2_with fail
      go_returns
      exact ⟨_, by rw [hr]; rfl, by rw [hr]; exact HO.out, HB.out⟩
end Go.Proofs.Ytlhfpfiehgcciaa
namespace Go.Proofs.Ytlhfpfiehgcciaa
open Go.ChangeShapes Go.WideShapes Go.ChangeAt Go.RowKit

set_option maxRecDepth 100000 in
set_option maxHeartbeats 8000000 in
theorem rall_any (v : Value) (L : Nat) (bs : Nat → Int) (hb : ∀ i, 0 ≤ bs i ∧ bs i < 256) (hL : L ≤ 1000000) (w : World) (hs : Slc .u8 w v L bs) :
    Calls Try.prog 15 #[v] w (AllR w (allF L bs)) := by
  obtain ⟨x, cap, rfl⟩ := hs.len
  have HS := Lib.hid hs
  have HI := Lib.hid hb
  obtain ⟨res, hres⟩ : ∃ r, r = allF L bs := ⟨_, rfl⟩
  rw [← hres]
  have HR := Lib.hid hres
  clear hs hb hres
  go_enter Try.func15, Try.ntmps15
  go_wp2_with fail
  go_loopw [5, 6] (fun v5 v6 wr => ∃ (n k : Nat) (l : List Ins), AllAt L bs n k l ∧ v6 = .int .i64 k ∧ OwnI wr w.heap.size v5 l ∧ Below w.heap.size w wr) (fun _ v6 _ => L - (intOf v6).toNat)
  case atStart => exact ⟨_, 0, [], all_start L bs, rfl, OwnI.nil _ _, Below.refl _ _⟩
  case round =>
    obtain ⟨n, k, l, hat, rfl, hown, hbr⟩ := hrel
    have hkL : k ≤ L := hat.le
    have HA := Lib.hid hat
    have HO := Lib.hid hown
    have HB := Lib.hid hbr
    clear hat hown hbr
    by_cases hlt : k < L
    · have hd1 : decide ((k : Int) < (L : Int)) = true := by simp; omega
      have hv : ∃ ad, x = some ad ∧ L ≤ cap ∧ ∀ i, i < L → w.cell? (ad.add i) = some (.int .u8 (bs i)) := by
        rcases HS.out with ⟨_, h0⟩ | ⟨ad, c', he, hl, hc⟩
        · omega
        · injection he with e1 e2 e3
          subst e1 e3
          exact ⟨ad, rfl, hl, hc⟩
      obtain ⟨ad, rfl, hlc, hcs⟩ := hv
      have hst := fun W => slice_tail ad L cap k (k : Int) rfl hkL W
      have HSL := Lib.hid ((slc_tail hcs hlc k hkL).below HB.out)
      clear hcs
      obtain ⟨⟨I, E⟩, hx⟩ : ∃ y, y = oneF (L - k) (fun i => bs (k + i)) := ⟨_, rfl⟩
      have HD := Lib.hid (rone_any _ (L - k) (fun i => bs (k + i)) (fun i => HI.out (k + i)) (by omega) wr HSL.out)
      rw [← hx] at HD
      have HX := Lib.hid hx
      clear hx HSL
      go_wp2_with fail
      refine HD.out.mono ?_
      rintro e w1 ⟨rfl, b'⟩
      unfold insR
      have HL := Lib.hid ((Lies.none HB.out).on b')
      have HO1 := Lib.hid (HO.out.below b')
      clear b' HD HO HB
      have HT1 := Lib.hid (there_alloc_new w1 zeroA 33 18 (by decide))
      by_cases he : E = 0
      · subst he
        obtain ⟨m, hm, m1, mL, hnx⟩ := all_next HI.out HA.out hlt HX.out.symm
        obtain ⟨op, cd, sz, oa, ob, oc, rp, ln⟩ := I
        obtain rfl : ln = (m : Int) := hm
        obtain ⟨I, hI⟩ : ∃ I : Ins, I = ⟨op, cd, sz, oa, ob, oc, rp, (m : Int)⟩ := ⟨_, rfl⟩
        rw [← hI] at hnx ⊢
        have HIe := Lib.hid hI
        have HNX := Lib.hid hnx
        have hkm : IntKind.i64.wrap ((k : Int) + (m : Int)) = (k : Int) + (m : Int) := by rw [IntKind.wrap_i64]; omega
        clear hI hnx
        have hl18 : (insL I).length = 18 := rfl
        go_wp2_with (first
          | (refine store_ins rfl (.tmp 7) (.tmp 18) rfl w1.heap.size rfl I rfl HT1.out ?_; intro Y1 hY hl; have HP := Lib.hid (HL.out.put zeroA 33 (insL I) (Nat.le_refl 18) _ rfl Y1 hY); have HO2 := Lib.hid (HO1.out.below (show Below w1.heap.size w1 Y1 by rw [hY]; exact below_setCells (Nat.le_refl _) _ _ _ (below_last (Below.refl _ _) _))); clear hY hl)
          | (refine wpList_load_mid rfl 33 (.tmp 7) rfl w1.heap.size 0 rfl (insL I) _ (HP.out.at_ _ _ (by simp)) Try.underlying33 rfl info_ins ?_)
          | (at_builtin; refine append_ins rfl (.tmp 24) (.tmp 26) rfl w.heap.size u5 l rfl (HO2.out.below (below_last (Below.refl _ _) _)) Y1.heap.size I rfl (range_fold Y1 I 33) (by have := HA.out.few; omega) (by have := HP.out.below.size; simp; omega) ?_; intro v5 w5 ho hb' hk' hs'; have HO3 := Lib.hid ho; have HB3 := Lib.hid (hb' w w.heap.size (Nat.le_refl _) (HP.out.alloc _).below (HP.out.alloc _).below.size); have hln := (ins_all (ins_block ((HP.out.alloc _).at_ w1.heap.size (insL I) (by simp)) (hk' w1.heap.size (by have := (HP.out.all _ (List.mem_singleton.2 rfl)).1; simp; omega) (HO1.out.notat _ (Nat.le_refl _))))).1.2.2.2.2; rw [HIe.out] at hln; dsimp only at hln; clear ho hb' hk' hs'))
        go_roundw
        case rel => exact ⟨n - 1, k + m, l ++ [I], HNX.out, by go_num, HO3.out, HB3.out⟩
        case measure => simp [intOf]; omega
      · have he1 : (E == 0) = false := by simpa using he
        go_wp2_with (refine store_ins rfl (.tmp 7) (.tmp 18) rfl w1.heap.size rfl I rfl HT1.out ?_; intro Y1 hY hl; have HP := Lib.hid (HL.out.put zeroA 33 (insL I) (Nat.le_refl 18) _ rfl Y1 hY); clear hY hl)
        have hr : res = ([], k, E) := HR.out.trans (by have := all_bad HA.out hlt (by rw [← HX.out]; exact he); rw [← HX.out] at this; exact this)
        go_returns
        exact ⟨_, by rw [hr]; rfl, by rw [hr]; exact OwnI.nil _ _, HP.out.below⟩
    · obtain rfl : k = L := by omega
      have hr : res = (l, 0, 0) := HR.out.trans (all_end HA.out rfl)
      go_wp2_with fail
      go_returns
      exact ⟨_, by rw [hr]; rfl, by rw [hr]; exact HO.out, HB.out⟩

theorem quietC_neq_ins {C : World → Prop} {K : Act → Prop} {a : Act} {d : Option Tmp} {ty : TypeId} {pos : String} {af : Array Edge} {g : Option (Nat × Bool)} (x y : Operand) (i : Ins) (hx : a.eval x = insV i) (hy : a.eval y = insV i) (hK : (Oper.mk d (.move (.const (.bool false))) ty pos af g).quiet Try.prog a C K) : (Oper.mk d (.binOp .neq 33 x y 33) ty pos af g).quiet Try.prog a C K :=
  quietC_val _ (.bool false) (fun u _ => by
    have hg : (eqGuard .neq 33 x y (insV i) (insV i)).run Try.prog u = .ok () u := run_eqGuard_agg u .neq 33 x y (insC i) (insC i) ins_guard1
    unfold execOp
    simp only [Sem.run_bind, hx, hy, hg, ins_neq, Result.andThen_ok, Sem.run_pure]) hK
theorem OwnI.form {w : World} {base : Nat} {v : Value} {l : List Ins} (h : OwnI w base v l) (h0 : 0 < l.length) : ∃ g cap, v = .slice (some ⟨g, 0, none⟩) l.length cap := by
  rcases h.2 with ⟨_, e⟩ | ⟨g, cap, cur, e1, _⟩
  · omega
  · exact ⟨g, cap, e1⟩
theorem below_drN' {B : Nat} {a w : World} (h : Below B a w) (n : Nat) : Below B a (w.drewN n) := ⟨h.os, h.tape, h.output, h.size, h.block⟩
/-- two rows of the same instructions are the same -/
theorem instrs_none (v1 v2 : Value) (b1 b2 : Nat) (w : World) (h1 : OwnI w b1 v1 []) (h2 : OwnI w b2 v2 []) :
    Calls Try.prog 16 #[v1, v2] w fun e w' => e = .returned (.bool true) ∧ Below w.heap.size w w' := by
  obtain ⟨a1, c1, rfl⟩ := h1.len
  obtain ⟨a2, c2, rfl⟩ := h2.len
  simp only [List.length_nil]
  clear h1 h2
  go_enter Try.func16, Try.ntmps16
  go_wp2_with fail
  go_loopw [5] (fun v5 wr => v5 = .int .i64 0 ∧ Below w.heap.size w wr) (fun _ _ => 0)
  case atStart => exact ⟨rfl, Below.refl _ _⟩
  case round =>
    obtain ⟨rfl, hbr⟩ := hrel
    go_wp2_with fail
    go_ret
    exact ⟨rfl, hbr⟩
set_option maxRecDepth 100000 in
set_option maxHeartbeats 4000000 in
theorem instrs_some (v1 v2 : Value) (b1 b2 : Nat) (l : List Ins) (w : World) (h1 : OwnI w b1 v1 l) (h2 : OwnI w b2 v2 l) (hl : l.length ≤ 1000000) (h0 : 0 < l.length) :
    Calls Try.prog 16 #[v1, v2] w fun e w' => e = .returned (.bool true) ∧ Below w.heap.size w w' := by
  obtain ⟨g1, c1, rfl⟩ := h1.form h0
  obtain ⟨g2, c2, rfl⟩ := h2.form h0
  have H1 := Lib.hid h1
  have H2 := Lib.hid h2
  obtain ⟨N, hN⟩ : ∃ N, l.length = N := ⟨_, rfl⟩
  have HN := Lib.hid hN
  rw [hN] at hl ⊢
  clear h1 h2 h0 hN
  go_enter Try.func16, Try.ntmps16
  go_wp2_with fail
  go_loopw [5] (fun v5 wr => ∃ i : Nat, i ≤ N ∧ v5 = .int .i64 i ∧ Below w.heap.size w wr) (fun v5 _ => N - (intOf v5).toNat)
  case atStart => exact ⟨0, Nat.zero_le _, rfl, Below.refl _ _⟩
  case round =>
    obtain ⟨i, hi, rfl, hbr⟩ := hrel
    have HB := Lib.hid hbr
    clear hbr
    by_cases hlt : i < N
    · have hd1 : decide ((i : Int) < (N : Int)) = true := by simp; omega
      have hiN : (i : Int) < (N : Int) := by omega
      have hil : i < l.length := by rw [HN.out]; exact hlt
      have HR1 := Lib.hid (show ∀ u, (∃ n, u = wr.drewN n) → u.rangeAt g1 (i * 18) (insL l[i]) from fun u ⟨n, hu⟩ => by
        have := H1.out.below HB.out
        rw [hu]
        exact fun j v hj => OwnI.at_ this i hil j v hj)
      have HR2 := Lib.hid (show ∀ u, (∃ n, u = wr.drewN n) → u.rangeAt g2 (i * 18) (insL l[i]) from fun u ⟨n, hu⟩ => by
        have := H2.out.below HB.out
        rw [hu]
        exact fun j v hj => OwnI.at_ this i hil j v hj)
      generalize l[i] = I at *
      go_wp2_with fail
      refine wp_region_quiet_lit (by kernel_rfl) (by kernel_rfl) ?_
      go_big_quiet_want; go_big_quiet_op; go_big_quiet_on
      go_big_quiet_want; go_big_quiet_op; go_big_quiet_on
      go_big_quiet_want; go_big_quiet_op; go_big_quiet_on
      go_big_quiet_want; refine quietC_load 33 (.tmp 19) g1 (i * 18) rfl (insL I) _ HR1.out Try.underlying33 rfl info_ins ?_; go_big_quiet_op; go_big_quiet_on
      go_big_quiet_want; go_big_quiet_op; go_big_quiet_on
      go_big_quiet_want; go_big_quiet_op; go_big_quiet_on
      go_big_quiet_want; go_big_quiet_op; go_big_quiet_on
      go_big_quiet_want; refine quietC_load 33 (.tmp 23) g2 (i * 18) rfl (insL I) _ HR2.out Try.underlying33 rfl info_ins ?_; go_big_quiet_op; go_big_quiet_on
      go_big_quiet_want; refine quietC_neq_ins (.tmp 20) (.tmp 24) I rfl rfl ?_; go_big_quiet_op; go_big_quiet_on
      refine wpQuiet_nil ?_
      intro W hW
      obtain ⟨nq, rfl⟩ := hW
      go_wp2_with fail
      go_roundw
      case rel => exact ⟨i + 1, by omega, by go_num, below_drN' HB.out nq⟩
      case measure => simp [intOf]; omega
    · obtain rfl : i = N := by omega
      go_wp2_with fail
      go_ret
      exact ⟨rfl, HB.out⟩
theorem instrs_any (v1 v2 : Value) (b1 b2 : Nat) (l : List Ins) (w : World) (h1 : OwnI w b1 v1 l) (h2 : OwnI w b2 v2 l) (hl : l.length ≤ 1000000) :
    Calls Try.prog 16 #[v1, v2] w fun e w' => e = .returned (.bool true) ∧ Below w.heap.size w w' := by
  by_cases h0 : 0 < l.length
  · exact instrs_some v1 v2 b1 b2 l w h1 h2 hl h0
  · obtain rfl : l = [] := List.eq_nil_of_length_eq_zero (by omega)
    exact instrs_none v1 v2 b1 b2 w h1 h2
end Go.Proofs.Ytlhfpfiehgcciaa
