import Derived.Test.YtgihiddiceinhaaDoorKND12
import Derived.Test.YtgihiddiceinhaaDoorKNN12
namespace Go.Proofs.YtgihiddiceinhaaDoor
open Go.ChangeShapes Go.WideShapes Go.ChangeAt Go.RowKit
def idxS (i s : Int) : List UInt8 := if isR i then regN reg4 i ++ (if 1 < s then 42 :: decS s else []) else []
theorem dec_one (s : Int) (h : s < 10) : decS s = [hexD s] := by
  show (if s < 10 then _ else _) = _
  rw [if_pos h]
theorem reg4_some {r : Int} (h : isR r = true) : (regN reg4 r).isEmpty = false := by
  rcases isR_lit h with rfl | rfl | rfl | rfl | rfl | rfl | rfl | rfl <;> rfl
theorem reg1_some {r : Int} (h : isR r = true) : (regN reg1 r).isEmpty = false := by
  rcases isR_lit h with rfl | rfl | rfl | rfl | rfl | rfl | rfl | rfl <;> rfl
theorem r4_yes {r : Int} (h : isR r = true) : r4S r = regN reg4 r := by unfold r4S; rw [h]; rfl
theorem r4_no {r : Int} (h : isR r = false) : r4S r = [] := by unfold r4S; rw [h]; rfl
theorem r4_len (r : Int) : (r4S r).length ≤ 3 := by
  cases h : isR r with
  | true => rw [r4_yes h]; exact reg_len r
  | false => rw [r4_no h]; exact Nat.zero_le _
theorem r4_empty (r : Int) : (tx (r4S r)).toList.isEmpty = !isR r := by
  rw [tx_empty]
  cases h : isR r with
  | true => rw [r4_yes h, reg4_some h]; rfl
  | false => rw [r4_no h]; rfl
set_option maxRecDepth 100000
set_option maxHeartbeats 4000000
theorem lindex_any (k r b i s d : Int) (s1 : s < 10) (w : World) : Calls Tryd.prog 39 #[opV ⟨k, r, b, i, s, d⟩] w fun e w' => e = .returned (.string (tx (idxS i s))) ∧ Below w.heap.size w w' := by
  have ht := r4_empty i
  have hl := r4_len i
  have HW := fun u => lwhole_any i u
  obtain ⟨N, hN⟩ : ∃ N, N = r4S i := ⟨_, rfl⟩
  rw [← hN] at ht hl HW
  have HW := Lib.hid HW
  have hal := Lib.hid (below_last (Below.refl w.heap.size w) (.cells #[.int .i64 k, .int .i64 r, .int .i64 b, .int .i64 i, .int .i64 s, .int .u32 d] 27))
  have hz : (tx N).size ≤ 3 := by rw [tx_size]; exact hl
  clear hl
  unfold opV
  cases hi : isR i with
  | false =>
    rw [hi] at ht
    have HE := Lib.hid (show idxS i s = N by unfold idxS; rw [hi, hN, r4_no hi]; rfl)
    clear hi hN
    go_enter Tryd.func39, Tryd.ntmps39
    go_wp2_with fail
    ((with_reducible refine (HW.out _).mono ?_); rintro e w1 ⟨rfl, rfl⟩)
    go_wp2_with fail
    go_ret
    exact ⟨by rw [HE.out]; rfl, hal.out⟩
  | true =>
    rw [hi] at ht
    by_cases hs : 1 < s
    · have d1 : decide (s ≤ 1) = false := decide_eq_false (by omega)
      have HE := Lib.hid (show idxS i s = (N ++ [42]) ++ [hexD s] by unfold idxS; rw [hi, hN, r4_yes hi, if_pos rfl, if_pos hs, dec_one s s1]; simp)
      have HI := Lib.hid (litoa_one s (by omega) s1)
      have ha := app1 N 42
      have hz1 : (tx (N ++ [42])).size ≤ 4 := by rw [tx_size] at hz ⊢; simp; omega
      obtain ⟨M, hM⟩ : ∃ M, M = N ++ [42] := ⟨_, rfl⟩
      rw [← hM] at ha hz1 HE
      have hb := tx_app M [hexD s]
      have hz2 : (tx [hexD s]).size = 1 := rfl
      obtain ⟨D, hD⟩ : ∃ D, D = tx [hexD s] := ⟨_, rfl⟩
      rw [← hD] at hb hz2 HI
      have hz2' : D.size ≤ 1 := by omega
      have HB := Lib.hid hb
      have HA := Lib.hid ha
      clear hi hN hM hD hz2 hs
      go_enter Tryd.func39, Tryd.ntmps39
      go_wp2_with fail
      ((with_reducible refine (HW.out _).mono ?_); rintro e w1 ⟨rfl, rfl⟩)
      have ha := HA.out
      go_wp2_with fail
      ((with_reducible refine (HI.out _).mono ?_); rintro e w1 ⟨rfl, rfl⟩)
      have hb := HB.out
      go_wp2_with fail
      go_ret
      exact ⟨by rw [HE.out]; rfl, hal.out⟩
    · have d1 : decide (s ≤ 1) = true := decide_eq_true (by omega)
      have HE := Lib.hid (show idxS i s = N by unfold idxS; rw [hi, hN, r4_yes hi, if_pos rfl, if_neg hs]; simp)
      clear hi hN hs
      go_enter Tryd.func39, Tryd.ntmps39
      go_wp2_with fail
      ((with_reducible refine (HW.out _).mono ?_); rintro e w1 ⟨rfl, rfl⟩)
      go_wp2_with fail
      go_ret
      exact ⟨by rw [HE.out]; rfl, hal.out⟩
set_option maxRecDepth 512
def addS (b i d : Int) : List UInt8 := if d = 0 ∧ (isR b = true ∨ isR i = true) then [] else hexT d
set_option maxRecDepth 100000
theorem ladded_any (k r b i s d : Int) (d0 : 0 ≤ d) (d1 : d < 4294967296) (w : World) (hT : TabZ w) : Calls Tryd.prog 40 #[opV ⟨k, r, b, i, s, d⟩] w fun e w' => e = .returned (.string (tx (addS b i d))) ∧ Below w.heap.size w w' := by
  have hal := Lib.hid (below_last (Below.refl w.heap.size w) (.cells #[.int .i64 k, .int .i64 r, .int .i64 b, .int .i64 i, .int .i64 s, .int .u32 d] 27))
  have HT := Lib.hid (hT.on hal.out)
  have HN := Lib.hid (fun u hu => lnumber_any d d0 d1 u hu)
  have HB := Lib.hid (lwhole_any b)
  have HI := Lib.hid (lwhole_any i)
  have tb := r4_empty b
  have ti := r4_empty i
  clear hT
  unfold opV
  by_cases hd : d = 0
  · subst hd
    cases hb : isR b with
    | true =>
      have HE := Lib.hid (show addS b i 0 = [] from if_pos ⟨rfl, .inl hb⟩)
      rw [hb] at tb
      clear hb ti d0 d1
      go_enter Tryd.func40, Tryd.ntmps40
      go_wp2_with fail
      ((with_reducible refine (HB.out _).mono ?_); rintro e w1 ⟨rfl, rfl⟩)
      go_wp2_with fail
      go_ret
      exact ⟨by rw [HE.out]; rfl, hal.out⟩
    | false =>
      rw [hb] at tb
      cases hi : isR i with
      | true =>
        have HE := Lib.hid (show addS b i 0 = [] from if_pos ⟨rfl, .inr hi⟩)
        rw [hi] at ti
        clear hb hi d0 d1
        go_enter Tryd.func40, Tryd.ntmps40
        go_wp2_with fail
        ((with_reducible refine (HB.out _).mono ?_); rintro e w1 ⟨rfl, rfl⟩)
        go_wp2_with fail
        ((with_reducible refine (HI.out _).mono ?_); rintro e w1 ⟨rfl, rfl⟩)
        go_wp2_with fail
        go_ret
        exact ⟨by rw [HE.out]; rfl, hal.out⟩
      | false =>
        have HE := Lib.hid (show addS b i 0 = hexT 0 from if_neg (by rw [hb, hi]; simp))
        rw [hi] at ti
        clear hb hi d0 d1
        go_enter Tryd.func40, Tryd.ntmps40
        go_wp2_with fail
        ((with_reducible refine (HB.out _).mono ?_); rintro e w1 ⟨rfl, rfl⟩)
        go_wp2_with fail
        ((with_reducible refine (HI.out _).mono ?_); rintro e w1 ⟨rfl, rfl⟩)
        go_wp2_with fail
        ((with_reducible refine (HN.out _ HT.out).mono ?_); rintro e w2 ⟨rfl, b2⟩)
        have HB2 := Lib.hid (below_step hal.out b2)
        clear b2
        go_wp2_with fail
        go_ret
        exact ⟨by rw [HE.out]; rfl, HB2.out⟩
  · have hd' : (d == 0) = false := by simpa using hd
    have HE := Lib.hid (show addS b i d = hexT d from if_neg (fun h => hd h.1))
    clear hd tb ti
    go_enter Tryd.func40, Tryd.ntmps40
    go_wp2_with fail
    ((with_reducible refine (HN.out _ HT.out).mono ?_); rintro e w2 ⟨rfl, b2⟩)
    have HB2 := Lib.hid (below_step hal.out b2)
    clear b2
    go_wp2_with fail
    go_ret
    exact ⟨by rw [HE.out]; rfl, HB2.out⟩
set_option maxRecDepth 512
theorem mem_join (k r b i s d : Int) : joinS [43] [91] [r4S b, idxS i s, addS b i d] = 91 :: mem2 ⟨k, r, b, i, s, d⟩ := by
  have hreg : ∀ {r : Int} {l : List UInt8}, isR r = true → (regN reg4 r ++ l).isEmpty = false := fun {r l} h => by
    have := reg4_some h
    cases hr : regN reg4 r with
    | nil => rw [hr] at this; cases this
    | cons x y => rfl
  have hreg0 : ∀ {r : Int}, isR r = true → regN reg4 r ≠ [] := fun {r} h e => by
    have := reg4_some h
    rw [e] at this; cases this
  unfold mem2 mem1 mem0 plus idxS addS
  dsimp only
  cases hb : isR b with
  | true =>
    rw [r4_yes hb]
    have e1 := reg4_some hb
    have n1 := hreg0 hb
    cases hi : isR i with
    | true =>
      have n2 := hreg0 hi
      by_cases hd : d = 0
      · simp [joinS, hd, e1, n1, n2]
      · simp [joinS, hd, e1, n1, n2, hexT]
    | false =>
      by_cases hd : d = 0
      · simp [joinS, hd, e1]
      · simp [joinS, hd, e1, hexT]
  | false =>
    rw [r4_no hb]
    cases hi : isR i with
    | true =>
      have n2 := hreg0 hi
      by_cases hd : d = 0
      · simp [joinS, hd, n2]
      · simp [joinS, hd, n2, hexT]
    | false =>
      by_cases hd : d = 0
      · simp [joinS, hd, hexT]
      · simp [joinS, hd, hexT]
theorem Bld.on {b : Nat} {l : List UInt8} {u u' : World} (h : Bld b l u) (hb : Below u.heap.size u u') : Bld b l u' := by
  have go : ∀ {p : Value}, Lib.BuilderAtF 57 5 b b p (Lib.byteCells l) u → Lib.BuilderAtF 57 5 b b p (Lib.byteCells l) u' := fun {p} ⟨h1, v, h2, h3, h4⟩ => by
    refine ⟨h1, v, (hb.block _ (Array.getElem?_eq_some_iff.1 h2).1).trans h2, ⟨h3.1, ?_⟩, h4⟩
    rcases h3.2 with h | ⟨g, cap, cur, fz, q1, q2, q3, q4⟩
    · exact .inl h
    · exact .inr ⟨g, cap, cur, fz, q1, q2, (hb.block _ (Array.getElem?_eq_some_iff.1 q3).1).trans q3, q4⟩
  exact Or.imp go go h
theorem Bld.start (b : Nat) (w : World) (hb : b = w.heap.size) : Bld b [] (w.alloc (.cells #[.pointer none, .slice none 0 0] 57)) := by
  subst hb
  exact Or.imp Lib.BuilderAtF.of Lib.BuilderAtF.of (Lib.fresh_isBuilder 57 5 w)
theorem PR.on {P : Nat} {ps : List (List UInt8)} {u u' : World} (h : PR P ps u) (hb : Below u.heap.size u u') : PR P ps u' := (hb.block _ (Array.getElem?_eq_some_iff.1 h).1).trans h
structure MInv (w : World) (o : Opd) (B : Nat) (l : List UInt8) (u : World) : Prop where
  ob : OB w o u
  bld : Bld B l u
  tab : TabZ u
  lt : B < u.heap.size
theorem MInv.on {w : World} {o : Opd} {B : Nat} {l : List UInt8} {u u' : World} (h : MInv w o B l u) (hb : Below u.heap.size u u') : MInv w o B l u' := ⟨h.ob.on hb, h.bld.on hb, h.tab.on hb, Nat.lt_of_lt_of_le h.lt hb.size⟩
abbrev MG (u u' : World) : Prop := Below u.heap.size u u'
def MV (w : World) (B : Nat) (o : Opd) : Nat → Value → World → Prop
  | 0, v, _ => v = .pointer (some ⟨w.heap.size, 2, none⟩)
  | 1, v, _ => v = .int .i64 o.base
  | 2, v, _ => v = .string (tx (r4S o.base))
  | 3, v, _ => v = opV o
  | 4, v, _ => v = .string (tx (idxS o.index o.scale))
  | 5, v, _ => v = opV o
  | 6, v, _ => v = .string (tx (addS o.base o.index o.disp))
  | 7, v, u => ∃ P, v = .slice (some ⟨P, 0, none⟩) 3 3 ∧ P ≠ B ∧ PR P [r4S o.base, idxS o.index o.scale, addS o.base o.index o.disp] u
  | _, _, _ => True
theorem mv_stays {w : World} {B : Nat} {o : Opd} (i : Nat) (v : Value) (u u' : World) (h : MV w B o i v u) (g : MG u u') : MV w B o i v u' := by
  unfold MV at h ⊢
  split at h
  all_goals first
    | exact h
    | (obtain ⟨P, h1, h2, h3⟩ := h; exact ⟨P, h1, h2, h3.on g⟩)
theorem size_len (s : Int) : (sizeS s).length ≤ 6 := by
  unfold sizeS
  split
  · decide
  · split
    · decide
    · split
      · decide
      · split
        · decide
        · decide
theorem load_opd12 {w u : World} {o : Opd} (h : OB w o u) : (loadVar 27 ⟨w.heap.size, 0, none⟩).run Tryd.prog u = .ok (opV o) u :=
  load_range (P := Tryd.prog) (cs := opL' o) 27 _ Tryd.underlying27 rfl info_opd1 (range_block h.b)
set_option maxRecDepth 100000
theorem lmem_any (k r b i s d size : Int) (d0 : 0 ≤ d) (d1 : d < 4294967296) (s1 : s < 10) (w : World) (hT : TabZ w) : Calls Tryd.prog 18 #[opV ⟨k, r, b, i, s, d⟩, .int .i64 size] w fun e w' => e = .returned (.string (tx (sizeS size ++ (91 :: (mem2 ⟨k, r, b, i, s, d⟩ ++ [93]))))) ∧ Below w.heap.size w w' := by
  have HOB := Lib.hid (OB.start w ⟨k, r, b, i, s, d⟩)
  have HT := Lib.hid hT
  have HSZ := Lib.hid (lwidth_any size)
  have HL := Lib.hid (size_len size)
  have HM := Lib.hid (mem_join k r b i s d)
  have HML := Lib.hid (mem2_len ⟨k, r, b, i, s, d⟩)
  obtain ⟨M, hM⟩ : ∃ M, M = mem2 ⟨k, r, b, i, s, d⟩ := ⟨_, rfl⟩
  obtain ⟨S, hS⟩ : ∃ S, S = sizeS size := ⟨_, rfl⟩
  rw [← hM] at HM HML ⊢
  rw [← hS] at HSZ HL ⊢
  clear hT hM hS
  unfold opV
  go_enter Tryd.func18, Tryd.ntmps18
  go_wp2_with fail
  ((with_reducible refine (HSZ.out _).mono ?_); rintro e w1 ⟨rfl, rfl⟩)
  obtain ⟨wB, hwB⟩ : ∃ wB, wB = (w.alloc (.cells #[.int .i64 k, .int .i64 r, .int .i64 b, .int .i64 i, .int .i64 s, .int .u32 d] 27)).alloc (.cells #[.pointer none, .slice none 0 0] 57) := ⟨_, rfl⟩
  obtain ⟨B, hB⟩ : ∃ B, B = w.heap.size + 1 := ⟨_, rfl⟩
  have h0 : OB w ⟨k, r, b, i, s, d⟩ wB := by rw [hwB]; exact HOB.out.on ((Below.refl _ _).alloc (Nat.le_refl _) _)
  have h1 : Bld B [] wB := by rw [hwB]; exact Bld.start B _ (by rw [hB]; simp)
  have hlt : B < wB.heap.size := by rw [hwB, hB]; simp
  rw [← hwB, ← hB]
  have HBN := Lib.hid (show w.heap.size < B by omega)
  have H0 := Lib.hid h0
  have H1 := Lib.hid h1
  clear hwB hB h0 h1
  go_wp2_with fail
  ((with_reducible refine (bwrite_tx B [] S _ H1.out (by have := HL.out; simp; omega)).mono ?_); rintro e w1 ⟨rfl, q1, q2, q3⟩)
  have HI : Hid (MInv w ⟨k, r, b, i, s, d⟩ B S w1) := Lib.hid ⟨⟨(q2.block _ HBN.out).trans H0.out.b, H0.out.bel.trans (q2.mono (Nat.le_of_lt HBN.out))⟩, q1, HT.out.on (H0.out.bel.trans (q2.mono (Nat.le_of_lt HBN.out))), Nat.lt_of_lt_of_le hlt q2.size⟩
  clear q1 q2 q3
  go_wp2_with fail
  refine wp_region_valsT (by kernel_rfl) 8 _ rfl rfl (by kernel_rfl) (fun _ => false) (by kernel_rfl) (MInv w ⟨k, r, b, i, s, d⟩ B S) MG (MV w B ⟨k, r, b, i, s, d⟩) mv_stays (fun _ => Below.refl _ _) (HI.out.on ((Below.refl _ _).drew)) ?_ ?_
  · intro j o c u hj ho hinv hsz hbase hdep
    have b2 : c.tmps.getD 2 undef = .pointer (some ⟨w.heap.size, 0, none⟩) := hbase 2 (by kernel_rfl)
    clear hbase hsz
    have hj8 : j = 0 ∨ j = 1 ∨ j = 2 ∨ j = 3 ∨ j = 4 ∨ j = 5 ∨ j = 6 ∨ j = 7 := by omega
    rcases hj8 with rfl | rfl | rfl | rfl | rfl | rfl | rfl | rfl
    · cases ho
      exact wp_val (by simp [execOp, Act.eval, b2, go_sem] <;> rfl) ⟨_, rfl, hinv, Below.refl _ _, rfl⟩
    · cases ho
      have e0 : c.tmps.getD 9 undef = .pointer (some ⟨w.heap.size, 2, none⟩) := hdep 0 (by kernel_rfl)
      have c2 : u.cell? ⟨w.heap.size, 2, none⟩ = some (.int .i64 b) := (cell_block hinv.ob.b 2).1
      exact wp_val (by simp [execOp, Act.eval, e0, go_sem, c2] <;> rfl) ⟨_, rfl, hinv, Below.refl _ _, rfl⟩
    · cases ho
      have e1 : c.tmps.getD 10 undef = .int .i64 b := hdep 1 (by kernel_rfl)
      refine wp_call (by simp [execOp, Act.eval, e1, go_sem] <;> rfl) ((lwhole_any b u).mono ?_)
      rintro e u' ⟨rfl, rfl⟩
      exact ⟨_, rfl, _, rfl, hinv, Below.refl _ _, rfl⟩
    · cases ho
      exact wp_val (by simp [execOp, Act.eval, b2, Instr.loadAt, Instr.sureAddr, load_opd12 hinv.ob] <;> rfl) ⟨_, rfl, hinv, Below.refl _ _, rfl⟩
    · cases ho
      have e3 : c.tmps.getD 12 undef = opV ⟨k, r, b, i, s, d⟩ := hdep 3 (by kernel_rfl)
      refine wp_call (by simp [execOp, Act.eval, e3, go_sem] <;> rfl) ((lindex_any k r b i s d s1 u).mono ?_)
      rintro e u' ⟨rfl, hb⟩
      exact ⟨_, rfl, _, rfl, hinv.on hb, hb, rfl⟩
    · cases ho
      exact wp_val (by simp [execOp, Act.eval, b2, Instr.loadAt, Instr.sureAddr, load_opd12 hinv.ob] <;> rfl) ⟨_, rfl, hinv, Below.refl _ _, rfl⟩
    · cases ho
      have e5 : c.tmps.getD 14 undef = opV ⟨k, r, b, i, s, d⟩ := hdep 5 (by kernel_rfl)
      refine wp_call (by simp [execOp, Act.eval, e5, go_sem] <;> rfl) ((ladded_any k r b i s d d0 d1 u hinv.tab).mono ?_)
      rintro e u' ⟨rfl, hb⟩
      exact ⟨_, rfl, _, rfl, hinv.on hb, hb, rfl⟩
    · cases ho
      have e2 : c.tmps.getD 11 undef = .string (tx (r4S b)) := hdep 2 (by kernel_rfl)
      have e4 : c.tmps.getD 13 undef = .string (tx (idxS i s)) := hdep 4 (by kernel_rfl)
      have e6 : c.tmps.getD 15 undef = .string (tx (addS b i d)) := hdep 6 (by kernel_rfl)
      rw [Array.getD_eq_getD_getElem?] at e2 e4 e6
      have hb : Below u.heap.size u (u.alloc (.cells (strA [r4S b, idxS i s, addS b i d]) 9)) := (Below.refl _ _).alloc (Nat.le_refl _) _
      exact wp_val (by simp [execOp, Act.eval, e2, e4, e6, go_sem] <;> rfl) ⟨_, rfl, hinv.on hb, hb, _, rfl, by have := hinv.lt; omega, heap_new rfl⟩
  · intro f u hinv hV
    obtain ⟨P, q7, hne, hPR⟩ := hV 7 (by decide)
    have q7 : f 7 = .slice (some ⟨P, 0, none⟩) 3 3 := q7
    generalize hc : laid _ f _ _ = c
    have b5 : c.tmps.getD 5 undef = .pointer (some ⟨B, 0, none⟩) := by rw [← hc]; kernel_rfl
    have b16 : c.tmps.getD 16 undef = .slice (some ⟨P, 0, none⟩) 3 3 := by rw [← hc, ← q7]; kernel_rfl
    have bs : c.tmps.size = 20 := by rw [← hc]; kernel_rfl
    have bd : c.defers = [] := by rw [← hc]; kernel_rfl
    clear hc
    have hlen : (S ++ joinS [43] [91] [r4S b, idxS i s, addS b i d]).length ≤ 50000 := by
      rw [HM.out]
      have := HL.out
      have := HML.out
      simp only [List.length_append, List.length_cons]
      omega
    refine wp_call (by simp [execOp, Act.eval, b5, b16, go_sem] <;> exact ⟨rfl, rfl⟩) ((ltell_any B P S [91] [43] _ u hinv.bld hPR hne (by simp) hlen).mono ?_)
    rintro e u' ⟨rfl, t1, t2, _⟩
    rw [HM.out] at t1
    refine ⟨_, rfl, ?_⟩
    show Exit.then _ _ Exit.normal (c.put (some 17) (.tuple #[])) u'
    generalize hc : c.put (some 17) (.tuple #[]) = c'
    have b5' : c'.tmps.getD 5 undef = .pointer (some ⟨B, 0, none⟩) := by rw [← hc, put_other _ _ _ _ (by decide), b5]
    have bs' : c'.tmps.size = 20 := by rw [← hc, put_size, bs]
    have bd' : c'.defers = [] := by rw [← hc, put_defers, bd]
    have HX := Lib.hid (hinv.ob.bel.trans (t2.mono (Nat.le_of_lt HBN.out)))
    have HT1 := Lib.hid t1
    have HLT := Lib.hid (Nat.lt_of_lt_of_le hinv.lt t2.size)
    clear hc b5 b16 bs bd hlen t1 t2 hPR hne hV q7 hinv
    rw [Array.getD_eq_getD_getElem?] at b5'
    have g5 : ∀ h, c'.tmps[5]'h = .pointer (some ⟨B, 0, none⟩) := fun h => by rwa [Array.getElem?_eq_getElem h, Option.getD_some] at b5'
    have HML' := HML.out
    have HL' := HL.out
    go_wp2_with fail
    ((with_reducible refine (bwrite_any B (S ++ 91 :: M) [93] _ HT1.out (by simp only [List.length_append, List.length_cons, List.length_nil]; omega)).mono ?_); rintro e w3 ⟨rfl, q1, q2, _⟩)
    have HX3 := Lib.hid (HX.out.trans (q2.mono (Nat.le_of_lt HBN.out)))
    have HR3 := Lib.hid (bread_tx B _ w3 q1 (Nat.lt_of_lt_of_le HLT.out q2.size))
    clear q1 q2
    go_wp2_with fail
    ((with_reducible refine (HR3.out).mono ?_); rintro e w4 ⟨rfl, q2⟩)
    have HX4 := Lib.hid (HX3.out.trans (q2.mono (Nat.le_of_lt HBN.out)))
    clear q2
    go_wp2_with fail
    go_ret
    exact ⟨by simp [bs'], HX4.out⟩
set_option maxRecDepth 512
theorem kn4 (r : Int) : knS (r4S r) = if isR r then regN reg4 r else [63] := by
  cases h : isR r with
  | true => rw [r4_yes h]; unfold knS; rw [reg4_some h]; rfl
  | false => rw [r4_no h]; rfl
theorem kn1 (r : Int) : knS (r1S r) = if isR r then regN reg1 r else [63] := by
  unfold r1S
  cases h : isR r with
  | true => rw [if_pos rfl, if_pos rfl]; unfold knS; rw [reg1_some h]; rfl
  | false => rfl
theorem kn8 (r : Int) : knS (r8S r) = if isR r then 120 :: 109 :: 109 :: hexS r else [63] := by
  unfold r8S
  cases h : isR r with
  | true => rcases isR_lit h with rfl | rfl | rfl | rfl | rfl | rfl | rfl | rfl <;> rfl
  | false => rfl
set_option maxRecDepth 100000
theorem topd_any (o : Opd) (size : Int) (d0 : 0 ≤ o.disp) (d1 : o.disp < 4294967296) (s1 : o.scale < 10) (w : World) (hT : TabZ w) : Calls Tryd.prog 8 #[opV o, .int .i64 size] w fun e w' => e = .returned (.string (tx (opdS o size))) ∧ Below w.heap.size w w' := by
  obtain ⟨k, r, b, i, s, d⟩ := o
  have hal := Lib.hid (below_last (Below.refl w.heap.size w) (.cells #[.int .i64 k, .int .i64 r, .int .i64 b, .int .i64 i, .int .i64 s, .int .u32 d] 27))
  have HT := Lib.hid (hT.on hal.out)
  clear hT
  have d0 : 0 ≤ d := d0
  have d1 : d < 4294967296 := d1
  have s1 : s < 10 := s1
  by_cases h1 : k = 1
  · subst h1
    have HE := Lib.hid (show opdS ⟨1, r, b, i, s, d⟩ size = knS (r4S r) from (kn4 r).symm)
    have HA := Lib.hid (lwhole_any r)
    have HK := Lib.hid (lknown_any (r4S r))
    unfold opV
    go_enter Tryd.func8, Tryd.ntmps8
    go_wp2_with fail
    ((with_reducible refine (HA.out _).mono ?_); rintro e w1 ⟨rfl, rfl⟩)
    go_wp2_with fail
    ((with_reducible refine (HK.out _).mono ?_); rintro e w1 ⟨rfl, rfl⟩)
    go_wp2_with fail
    go_ret
    exact ⟨by rw [HE.out]; rfl, hal.out⟩
  by_cases h2 : k = 2
  · subst h2
    have HE := Lib.hid (show opdS ⟨2, r, b, i, s, d⟩ size = knS (r1S r) from (kn1 r).symm)
    have HA := Lib.hid (llow_any r)
    have HK := Lib.hid (lknown_any (r1S r))
    clear h1
    unfold opV
    go_enter Tryd.func8, Tryd.ntmps8
    go_wp2_with fail
    ((with_reducible refine (HA.out _).mono ?_); rintro e w1 ⟨rfl, rfl⟩)
    go_wp2_with fail
    ((with_reducible refine (HK.out _).mono ?_); rintro e w1 ⟨rfl, rfl⟩)
    go_wp2_with fail
    go_ret
    exact ⟨by rw [HE.out]; rfl, hal.out⟩
  by_cases h5 : k = 5
  · subst h5
    have HE := Lib.hid (show opdS ⟨5, r, b, i, s, d⟩ size = knS (r8S r) from (kn8 r).symm)
    have HA := Lib.hid (ldouble_any r)
    have HK := Lib.hid (lknown_any (r8S r))
    clear h1 h2
    unfold opV
    go_enter Tryd.func8, Tryd.ntmps8
    go_wp2_with fail
    ((with_reducible refine (HA.out _).mono ?_); rintro e w1 ⟨rfl, rfl⟩)
    go_wp2_with fail
    ((with_reducible refine (HK.out _).mono ?_); rintro e w1 ⟨rfl, rfl⟩)
    go_wp2_with fail
    go_ret
    exact ⟨by rw [HE.out]; rfl, hal.out⟩
  by_cases h3 : k = 3
  · subst h3
    have HE := Lib.hid (show opdS ⟨3, r, b, i, s, d⟩ size = sizeS size ++ (91 :: (mem2 ⟨3, r, b, i, s, d⟩ ++ [93])) from rfl)
    have HA := fun u hu => lmem_any 3 r b i s d size d0 d1 s1 u hu
    unfold opV at HA
    have HA := Lib.hid HA
    clear h1 h2 h5
    unfold opV
    go_enter Tryd.func8, Tryd.ntmps8
    go_wp2_with fail
    ((with_reducible refine (HA.out _ HT.out).mono ?_); rintro e w1 ⟨rfl, b1⟩)
    have HB1 := Lib.hid (below_step hal.out b1)
    clear b1
    go_wp2_with fail
    go_ret
    exact ⟨by rw [HE.out]; rfl, HB1.out⟩
  by_cases h4 : k = 4
  · subst h4
    have HE := Lib.hid (show opdS ⟨4, r, b, i, s, d⟩ size = hexT d from rfl)
    have HA := Lib.hid (fun u hu => lnumber_any d d0 d1 u hu)
    clear h1 h2 h5 h3
    unfold opV
    go_enter Tryd.func8, Tryd.ntmps8
    go_wp2_with fail
    ((with_reducible refine (HA.out _ HT.out).mono ?_); rintro e w1 ⟨rfl, b1⟩)
    have HB1 := Lib.hid (below_step hal.out b1)
    clear b1
    go_wp2_with fail
    go_ret
    exact ⟨by rw [HE.out]; rfl, HB1.out⟩
  have HE := Lib.hid (show opdS ⟨k, r, b, i, s, d⟩ size = [] by
    unfold opdS
    dsimp only
    rw [if_neg h4, if_neg (by omega), if_neg h3])
  have n1 : (k == 1) = false := by simpa using h1
  have n2 : (k == 2) = false := by simpa using h2
  have n3 : (k == 3) = false := by simpa using h3
  have n4 : (k == 4) = false := by simpa using h4
  have n5 : (k == 5) = false := by simpa using h5
  clear h1 h2 h3 h4 h5
  unfold opV
  go_enter Tryd.func8, Tryd.ntmps8
  go_wp2_with fail
  go_ret
  exact ⟨by rw [HE.out]; rfl, hal.out⟩
end Go.Proofs.YtgihiddiceinhaaDoor
