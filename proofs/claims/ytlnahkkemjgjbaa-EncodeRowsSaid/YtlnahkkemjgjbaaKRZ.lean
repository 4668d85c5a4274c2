import Derived.Deep.DeepCutAuto
import Derived.Laws.AppendOwn
import Derived.Laws.OwnMore
import Derived.Below
import Derived.KernelRfl
import Derived.Test.YtlnahkkemjgjbaaKRX
namespace Go.Proofs.Ytlnahkkemjgjbaa
open Go.ChangeShapes Go.WideShapes Go.ChangeAt Go.RowKit
def inI (i : Ins) : List Value := [.int .i64 i.op, .int .i64 i.cond, .int .i64 i.size, .int .i64 i.a.kind, .int .i64 i.a.reg, .int .i64 i.a.base, .int .i64 i.a.index, .int .i64 i.a.scale, .int .u32 i.a.disp, .int .i64 i.b.kind, .int .i64 i.b.reg, .int .i64 i.b.base, .int .i64 i.b.index, .int .i64 i.b.scale, .int .u32 i.b.disp, .int .u32 i.c, .bool i.rep, .int .i64 i.len]
def rowI (l : List Ins) : List Value := l.flatMap inI
theorem rowI_snoc (l : List Ins) (o : Ins) : rowI (l ++ [o]) = rowI l ++ inI o := by
  unfold rowI
  rw [List.flatMap_append]
  simp
theorem rowI_at : ∀ (l : List Ins) (k : Nat) (h : k < l.length) (j : Nat), j < 18 → (rowI l)[k * 18 + j]? = (inI l[k])[j]?
  | o :: l, 0, _, j, hj => by
    show (inI o ++ rowI l)[0 * 18 + j]? = _
    rw [Nat.zero_mul, Nat.zero_add, List.getElem?_append_left (by show j < 18; exact hj)]
    rfl
  | o :: l, k + 1, h, j, hj => by
    have hl : (inI o).length = 18 := rfl
    show (inI o ++ rowI l)[(k + 1) * 18 + j]? = _
    rw [List.getElem?_append_right (by rw [hl]; omega), hl, show (k + 1) * 18 + j - 18 = k * 18 + j by omega, rowI_at l k (by simpa using h) j hj]
    rfl
theorem info_insA : (Try.prog.info? 27).map (fun i => (i.zero.map (·.cells.size), i.size, decide (i.bytes ≤ 200))) = some (some 18, 18, true) := by kernel_rfl
def OwnI (w : World) (base : Nat) (v : Value) (l : List Ins) : Prop := w.ownsRow base 27 18 v l.length (rowI l)
theorem OwnI.nil (w : World) (base : Nat) : OwnI w base (.slice none 0 0) [] := World.ownsRow_nil w base _ 18
theorem OwnI.below {w w' : World} {base : Nat} {v : Value} {l : List Ins} (h : OwnI w base v l) (hb : Below w.heap.size w w') : OwnI w' base v l := by
  obtain ⟨h1, h2⟩ := h
  refine ⟨h1, ?_⟩
  rcases h2 with h2 | ⟨g, cap, cur, e1, e2, e3, e4⟩
  · exact .inl h2
  · refine .inr ⟨g, cap, cur, e1, e2, ?_, e4⟩
    rw [hb.block g (Array.getElem?_eq_some_iff.1 e3).1]
    exact e3
theorem OwnI.ge {w : World} {base : Nat} {v : Value} {l : List Ins} (h : OwnI w base v l) (k : Nat) (hk : v.ownBlock = some k) : base ≤ k := (World.ownsRow.lt h k hk).1
theorem OwnI.len {w : World} {base : Nat} {v : Value} {l : List Ins} (h : OwnI w base v l) : ∃ a cap, v = .slice a l.length cap := by
  rcases h.2 with ⟨rfl, e⟩ | ⟨g, cap, cur, e1, _⟩
  · exact ⟨none, 0, by rw [e]⟩
  · exact ⟨_, cap, e1⟩
theorem append_ins {w : World} {ops : Array Oper} {rest : List Oper} {o : Oper} {a : Act} {Q : Exit → Act → World → Prop} (hg : o.guard = none) (s x : Operand)
    (hop : o.op = Op.call { callee := Callee.builtin Builtin.append, args := #[s, x], argTypes := #[38, 38] })
    (base : Nat) (v : Value) (l : List Ins) (hs : a.eval s = v) (hown : OwnI w base v l) (B : Nat) (q : Ins) (hx : a.eval x = .slice (some ⟨B, 0, none⟩) 1 1)
    (hr : w.rangeAt B 0 (inI q)) (hn : l.length ≤ 100000000) (hb : base ≤ w.heap.size)
    (hK : ∀ v' w', OwnI w' base v' (l ++ [q]) → (∀ W n, n ≤ base → Below n W w → n ≤ w.heap.size → Below n W w') → (∀ k, k < w.heap.size → v.ownBlock ≠ some k → w'.heap[k]? = w.heap[k]?) → w.heap.size ≤ w'.heap.size → wpList Try.prog ops Q rest (a.put o.dst v') w') : wpList Try.prog ops Q (o :: rest) a w := by
  obtain ⟨i0, hi, hz, hsz, hby⟩ : ∃ i0, Try.prog.info? 27 = some i0 ∧ i0.zero.map (·.cells.size) = some 18 ∧ i0.size = 18 ∧ i0.bytes ≤ 200 := by
    have h := info_insA
    cases hi : Try.prog.info? 27 with
    | none => rw [hi] at h; cases h
    | some i0 =>
      rw [hi] at h
      simp only [Option.map_some, Option.some.injEq, Prod.mk.injEq, decide_eq_true_eq] at h
      exact ⟨i0, rfl, h.1, h.2.1, h.2.2⟩
  obtain ⟨z, hz0, hz1⟩ : ∃ z, i0.zero = some z ∧ z.cells.size = 18 := by
    cases hzz : i0.zero with
    | none => rw [hzz] at hz; cases hz
    | some z => rw [hzz] at hz; exact ⟨z, rfl, by simpa using hz⟩
  have hbytes : (l.length + 1) * i0.bytes ≤ 140737488355328 := Nat.le_trans (Nat.mul_le_mul_left _ hby) (by omega)
  refine wpList_append_own w hg s x 38 hop base 27 i0 z 18 i0.bytes Try.underlying38 hi hz0 hsz rfl hz1 (by decide) v l.length (rowI l) hs hown ⟨B, 0, none⟩ 1 1 (inI q) hx rfl ?_ ?_ (by unfold maxLen; omega) hbytes hb ?_
  · intro j u hj
    rw [addr_add]
    exact hr j u hj
  · intro u hu
    unfold inI at hu
    simp only [List.mem_cons, List.not_mem_nil, or_false] at hu
    rcases hu with rfl | rfl | rfl | rfl | rfl | rfl | rfl | rfl | rfl | rfl | rfl | rfl | rfl | rfl | rfl | rfl | rfl | rfl <;> rfl
  · intro v' w' ho hgr _
    refine hK v' w' ?_ ?_ (fun k hk hne => hgr.block k hk (fun e => hne e.symm)) hgr.size
    · unfold OwnI
      rw [rowI_snoc, List.length_append]
      exact ho
    · intro W n hnb hW hnw
      exact hW.grown hgr hnw (fun k hk => Nat.le_trans hnb (OwnI.ge hown k hk))
theorem OwnI.at_ {w : World} {base : Nat} {g cap : Nat} {l : List Ins} (h : OwnI w base (.slice (some ⟨g, 0, none⟩) l.length cap) l) (k : Nat) (hk : k < l.length) : w.rangeAt g (k * 18) (inI l[k]) := fun j v hj => by
  have hj18 : j < 18 := (List.getElem?_eq_some_iff.1 hj).1
  have := World.ownsRow.cellAt h (k * 18 + j) (by omega)
  rw [this, rowI_at l k hk j hj18]
  exact hj
def AllR (w : World) (x : List Ins × Nat × Int) (e : Ending) (w' : World) : Prop := ∃ r, e = .returned (.tuple #[r, .int .i64 (x.2.1 : Int), .int .i64 x.2.2]) ∧ OwnI w' w.heap.size r x.1 ∧ Below w.heap.size w w'
theorem ins_block {w : World} {g : Nat} {i : Ins} {u : World} (hr : w.rangeAt g 0 (insL i)) (h : u.heap[g]? = w.heap[g]?) : u.rangeAt g 0 (insL i) := fun j v hj => by
  rw [World.cell?_of_block (a := ⟨g, 0 + j, none⟩) h]
  exact hr j v hj
theorem fold_ins (i : Ins) : List.foldl (fun (cs : Array Value) (x : Value × Nat) => cs.setIfInBounds x.snd x.fst) zeroA (insL i).zipIdx = (insL i).toArray := by kernel_rfl
theorem range_fold (w : World) (i : Ins) (T : TypeId) : (w.alloc (.cells (List.foldl (fun (cs : Array Value) (x : Value × Nat) => cs.setIfInBounds x.snd x.fst) zeroA (insL i).zipIdx) T)).rangeAt w.heap.size 0 (inI i) := by
  rw [fold_ins]
  exact fun j v hj => by
    rw [Nat.zero_add, World.cell?_alloc_new]
    simpa using (show (insL i)[j]? = some v from hj)
theorem OwnI.notat {w : World} {base : Nat} {v : Value} {l : List Ins} (h : OwnI w base v l) (k : Nat) (hk : w.heap.size ≤ k) : v.ownBlock ≠ some k := fun e => by
  have := (World.ownsRow.lt h k e).2
  omega
set_option maxRecDepth 100000
set_option maxHeartbeats 8000000
theorem dall_any (v : Value) (L : Nat) (bs : Nat → Int) (hb : ∀ i, 0 ≤ bs i ∧ bs i < 256) (hL : L ≤ 1000000) (w : World) (hs : Slc .u8 w v L bs) :
    Calls Try.prog 11 #[v] w (AllR w (allF L bs)) := by
  obtain ⟨x, cap, rfl⟩ := hs.len
  have HS := Lib.hid hs
  have HI := Lib.hid hb
  obtain ⟨res, hres⟩ : ∃ r, r = allF L bs := ⟨_, rfl⟩
  rw [← hres]
  have HR := Lib.hid hres
  clear hs hb hres
  go_enter Try.func11, Try.ntmps11
  go_wp2_with fail
  go_loopw [5, 6] (fun v5 v6 wr => ∃ (n k : Nat) (l : List Ins), AllAt L bs n k l ∧ v6 = .int .i64 k ∧ OwnI wr w.heap.size v5 l ∧ Below w.heap.size w wr) (fun _ v6 _ => L - (intOf v6).toNat)
  case atStart => exact ⟨_, 0, [], all_start L bs, rfl, OwnI.nil _ _, Below.refl _ _⟩
  case round =>
    obtain ⟨n, k, l, hat, rfl, hown, hbr⟩ := hrel
    have hkL : k ≤ L := hat.le
    have HA := Lib.hid hat
    have HO := Lib.hid hown
    have HB := Lib.hid hbr
    clear hat hown hbr
    by_cases hlt : k < L
    · have hd1 : decide ((k : Int) < (L : Int)) = true := by simp; omega
      have hv : ∃ ad, x = some ad ∧ L ≤ cap ∧ ∀ i, i < L → w.cell? (ad.add i) = some (.int .u8 (bs i)) := by
        rcases HS.out with ⟨_, h0⟩ | ⟨ad, c', he, hl, hc⟩
        · omega
        · injection he with e1 e2 e3
          subst e1 e3
          exact ⟨ad, rfl, hl, hc⟩
      obtain ⟨ad, rfl, hlc, hcs⟩ := hv
      have hst := fun W => slice_tail ad L cap k (k : Int) rfl hkL W
      have HSL := Lib.hid ((slc_tail hcs hlc k hkL).below HB.out)
      clear hcs
      obtain ⟨⟨I, E⟩, hx⟩ : ∃ y, y = oneF (L - k) (fun i => bs (k + i)) := ⟨_, rfl⟩
      have HD := Lib.hid (done_any _ (L - k) (fun i => bs (k + i)) (fun i => HI.out (k + i)) (by omega) wr HSL.out)
      rw [← hx] at HD
      have HX := Lib.hid hx
      clear hx HSL
      go_wp2_with fail
      refine HD.out.mono ?_
      rintro e w1 ⟨rfl, b'⟩
      unfold insR
      have HL := Lib.hid ((Lies.none HB.out).on b')
      have HO1 := Lib.hid (HO.out.below b')
      clear b' HD HO HB
      have HT1 := Lib.hid (there_alloc_new w1 zeroA 27 18 (by decide))
      by_cases he : E = 0
      · subst he
        obtain ⟨m, hm, m1, mL, hnx⟩ := all_next HI.out HA.out hlt HX.out.symm
        obtain ⟨op, cd, sz, oa, ob, oc, rp, ln⟩ := I
        obtain rfl : ln = (m : Int) := hm
        obtain ⟨I, hI⟩ : ∃ I : Ins, I = ⟨op, cd, sz, oa, ob, oc, rp, (m : Int)⟩ := ⟨_, rfl⟩
        rw [← hI] at hnx ⊢
        have HIe := Lib.hid hI
        have HNX := Lib.hid hnx
        have hkm : IntKind.i64.wrap ((k : Int) + (m : Int)) = (k : Int) + (m : Int) := by rw [IntKind.wrap_i64]; omega
        clear hI hnx
        have hl18 : (insL I).length = 18 := rfl
        go_wp2_with (first
          | (refine store_ins rfl (.tmp 7) (.tmp 18) rfl w1.heap.size rfl I rfl HT1.out ?_; intro Y1 hY hl; have HP := Lib.hid (HL.out.put zeroA 27 (insL I) (Nat.le_refl 18) _ rfl Y1 hY); have HO2 := Lib.hid (HO1.out.below (show Below w1.heap.size w1 Y1 by rw [hY]; exact below_setCells (Nat.le_refl _) _ _ _ (below_last (Below.refl _ _) _))); clear hY hl)
          | (refine wpList_load_mid rfl 27 (.tmp 7) rfl w1.heap.size 0 rfl (insL I) _ (HP.out.at_ _ _ (by simp)) Try.underlying27 rfl info_ins ?_)
          | (at_builtin; refine append_ins rfl (.tmp 24) (.tmp 26) rfl w.heap.size u5 l rfl (HO2.out.below (below_last (Below.refl _ _) _)) Y1.heap.size I rfl (range_fold Y1 I 27) (by have := HA.out.few; omega) (by have := HP.out.below.size; simp; omega) ?_; intro v5 w5 ho hb' hk' hs'; have HO3 := Lib.hid ho; have HB3 := Lib.hid (hb' w w.heap.size (Nat.le_refl _) (HP.out.alloc _).below (HP.out.alloc _).below.size); have hln := (ins_all (ins_block ((HP.out.alloc _).at_ w1.heap.size (insL I) (by simp)) (hk' w1.heap.size (by have := (HP.out.all _ (List.mem_singleton.2 rfl)).1; simp; omega) (HO1.out.notat _ (Nat.le_refl _))))).1.2.2.2.2; rw [HIe.out] at hln; dsimp only at hln; clear ho hb' hk' hs'))
        go_roundw
        case rel => exact ⟨n - 1, k + m, l ++ [I], HNX.out, by go_num, HO3.out, HB3.out⟩
        case measure => simp [intOf]; omega
      · have he1 : (E == 0) = false := by simpa using he
        go_wp2_with (refine store_ins rfl (.tmp 7) (.tmp 18) rfl w1.heap.size rfl I rfl HT1.out ?_; intro Y1 hY hl; have HP := Lib.hid (HL.out.put zeroA 27 (insL I) (Nat.le_refl 18) _ rfl Y1 hY); clear hY hl)
        have hr : res = ([], k, E) := HR.out.trans (by have := all_bad HA.out hlt (by rw [← HX.out]; exact he); rw [← HX.out] at this; exact this)
        go_returns
        exact ⟨_, by rw [hr]; rfl, by rw [hr]; exact OwnI.nil _ _, HP.out.below⟩
    · obtain rfl : k = L := by omega
      have hr : res = (l, 0, 0) := HR.out.trans (all_end HA.out rfl)
      go_wp2_with fail
      go_returns
      exact ⟨_, by rw [hr]; rfl, by rw [hr]; exact HO.out, HB.out⟩
end Go.Proofs.Ytlnahkkemjgjbaa
