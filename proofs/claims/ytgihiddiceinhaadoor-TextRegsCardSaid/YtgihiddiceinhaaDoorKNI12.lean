import Derived.BigQuiet
import Derived.Deep.QuietTactic
import Derived.Test.YtgihiddiceinhaaDoorKNP12
import Derived.Test.YtgihiddiceinhaaDoorKNU12
namespace Go.Proofs.YtgihiddiceinhaaDoor
open Go.ChangeShapes Go.WideShapes Go.ChangeAt Go.RowKit
structure IB (w : World) (x : Ins) (u : World) : Prop where
  b : u.heap[w.heap.size]? = some (.cells (insC x) 32 (0, 0))
  bel : Below w.heap.size w u
theorem IB.on {w u u' : World} {x : Ins} (h : IB w x u) (hb : Below u.heap.size u u') : IB w x u' := ⟨(hb.block _ (Array.getElem?_eq_some_iff.1 h.b).1).trans h.b, h.bel.trans (hb.mono h.bel.size)⟩
theorem IB.start (w : World) (x : Ins) : IB w x (w.alloc (.cells (insC x) 32)) := ⟨by show (w.heap.push _)[w.heap.size]? = _; simp, below_last (Below.refl _ _) _⟩
theorem IB.row {w u : World} {x : Ins} (h : IB w x u) : u.rangeAt w.heap.size 0 (insL x) := range_block h.b
theorem IB.opd {w u : World} {x : Ins} (h : IB w x u) : u.rangeAt w.heap.size 3 (opL' x.a) ∧ u.rangeAt w.heap.size 9 (opL' x.b) := by
  refine ⟨fun j v hj => ?_, fun j v hj => ?_⟩
  · have hl : j < 6 := (List.getElem?_eq_some_iff.1 hj).1
    refine (cell_block h.b (3 + j)).1.trans ?_
    rw [← hj]
    rcases (show j = 0 ∨ j = 1 ∨ j = 2 ∨ j = 3 ∨ j = 4 ∨ j = 5 by omega) with rfl | rfl | rfl | rfl | rfl | rfl <;> rfl
  · have hl : j < 6 := (List.getElem?_eq_some_iff.1 hj).1
    refine (cell_block h.b (9 + j)).1.trans ?_
    rw [← hj]
    rcases (show j = 0 ∨ j = 1 ∨ j = 2 ∨ j = 3 ∨ j = 4 ∨ j = 5 by omega) with rfl | rfl | rfl | rfl | rfl | rfl <;> rfl
theorem below_dr12 {B : Nat} {a w : World} (h : Below B a w) (n : Nat) : Below B a (w.drewN n) := ⟨h.os, h.tape, h.output, h.size, h.block⟩
set_option maxRecDepth 100000
set_option maxHeartbeats 4000000
theorem lending_5 (x : Ins) (h : x.op = 5) (w : World) : Calls Tryd.prog 31 #[insV x] w fun e w' => e = .returned (.string (tx [])) ∧ Below w.heap.size w w' := by
  have HI := Lib.hid (IB.start w x)
  have hc0 : (insC x)[0]? = some (.int .i64 5) := by rw [← h]; rfl
  clear h
  unfold insV
  go_enter Tryd.func31, Tryd.ntmps31
  go_wp2_with fail
  go_ret
  exact ⟨rfl, HI.out.bel⟩
theorem lthird_5 (x : Ins) (h : x.op = 5) (w : World) : Calls Tryd.prog 34 #[insV x] w fun e w' => e = .returned (.string (tx [])) ∧ Below w.heap.size w w' := by
  have HI := Lib.hid (IB.start w x)
  have hc0 : (insC x)[0]? = some (.int .i64 5) := by rw [← h]; rfl
  clear h
  unfold insV
  go_enter Tryd.func34, Tryd.ntmps34
  go_wp2_with fail
  go_ret
  exact ⟨rfl, HI.out.bel⟩
theorem lsizes_5 (x : Ins) (h : x.op = 5) (w : World) : Calls Tryd.prog 32 #[insV x] w fun e w' => e = .returned (.tuple #[.int .i64 x.size, .int .i64 x.size]) ∧ Below w.heap.size w w' := by
  have HI := Lib.hid (IB.start w x)
  have hc0 : (insC x)[0]? = some (.int .i64 5) := by rw [← h]; rfl
  have hc2 : (insC x)[2]? = some (.int .i64 x.size) := rfl
  clear h
  unfold insV
  go_enter Tryd.func32, Tryd.ntmps32
  go_wp2_with fail
  go_quiet (fail)
  go_wp2_with fail
  go_ret2
  exact ⟨rfl, below_dr12 HI.out.bel _⟩
set_option maxRecDepth 512
structure NInv (w : World) (x : Ins) (B : Nat) (l : List UInt8) (u : World) : Prop where
  ib : IB w x u
  bld : Bld B l u
  tab : TabZ u
  lt : B < u.heap.size
theorem NInv.on {w : World} {x : Ins} {B : Nat} {l : List UInt8} {u u' : World} (h : NInv w x B l u) (hb : Below u.heap.size u u') : NInv w x B l u' := ⟨h.ib.on hb, h.bld.on hb, h.tab.on hb, Nat.lt_of_lt_of_le h.lt hb.size⟩
theorem NInv.write {w : World} {x : Ins} {B : Nat} {l l' : List UInt8} {u u' : World} (h : NInv w x B l u) (hBw : w.heap.size < B) (hT : TabZ w) (hb : Below B u u') (hl : Bld B l' u') : NInv w x B l' u' :=
  ⟨⟨(hb.block _ hBw).trans h.ib.b, h.ib.bel.trans (hb.mono (Nat.le_of_lt hBw))⟩, hl, hT.on (h.ib.bel.trans (hb.mono (Nat.le_of_lt hBw))), Nat.lt_of_lt_of_le h.lt hb.size⟩
def NV (w : World) (B : Nat) (x : Ins) (p q : List UInt8) : Nat → Value → World → Prop
  | 0, v, _ => v = .pointer (some ⟨w.heap.size, 3, none⟩)
  | 1, v, _ => v = opV x.a
  | 2, v, _ => v = .int .i64 x.size
  | 3, v, _ => v = .string (tx p)
  | 4, v, _ => v = .pointer (some ⟨w.heap.size, 9, none⟩)
  | 5, v, _ => v = opV x.b
  | 6, v, _ => v = .int .i64 x.size
  | 7, v, _ => v = .string (tx q)
  | 8, v, _ => v = insV x
  | 9, v, _ => v = .string (tx [])
  | 10, v, u => ∃ P, v = .slice (some ⟨P, 0, none⟩) 3 3 ∧ P ≠ B ∧ PR P [p, q, []] u
  | _, _, _ => True
theorem nv_stays {w : World} {B : Nat} {x : Ins} {p q : List UInt8} (i : Nat) (v : Value) (u u' : World) (h : NV w B x p q i v u) (g : MG u u') : NV w B x p q i v u' := by
  unfold NV at h ⊢
  split at h
  all_goals first
    | exact h
    | (obtain ⟨P, h1, h2, h3⟩ := h; exact ⟨P, h1, h2, h3.on g⟩)
theorem load_ins12 {w u : World} {x : Ins} (h : IB w x u) : (loadVar 32 ⟨w.heap.size, 0, none⟩).run Tryd.prog u = .ok (insV x) u :=
  load_range (P := Tryd.prog) (cs := insL x) 32 _ Tryd.underlying32 rfl info_ins h.row
theorem load_a12 {w u : World} {x : Ins} (h : IB w x u) : (loadVar 27 ⟨w.heap.size, 3, none⟩).run Tryd.prog u = .ok (opV x.a) u :=
  load_range (P := Tryd.prog) (cs := opL' x.a) 27 _ Tryd.underlying27 rfl info_opd1 h.opd.1
theorem load_b12 {w u : World} {x : Ins} (h : IB w x u) : (loadVar 27 ⟨w.heap.size, 9, none⟩).run Tryd.prog u = .ok (opV x.b) u :=
  load_range (P := Tryd.prog) (cs := opL' x.b) 27 _ Tryd.underlying27 rfl info_opd1 h.opd.2
set_option maxRecDepth 100000
theorem linstr_5 (x : Ins) (h5 : x.op = 5) (hr : x.rep = false) (ha : 0 ≤ x.a.disp ∧ x.a.disp < 4294967296) (hb : 0 ≤ x.b.disp ∧ x.b.disp < 4294967296) (sa : x.a.scale < 10) (sb : x.b.scale < 10) (hlen : (joinS [44, 32] [32] [opdS x.a x.size, opdS x.b x.size, []]).length ≤ 40000) (w : World) (hT : TabZ w) :
    Calls Tryd.prog 11 #[insV x] w fun e w' => e = .returned (.string (tx ([97, 110, 100] ++ joinS [44, 32] [32] [opdS x.a x.size, opdS x.b x.size, []]))) ∧ Below w.heap.size w w' := by
  have HIB := Lib.hid (IB.start w x)
  have HT := Lib.hid hT
  have HN := fun u => tname_any 5 u
  rw [show opN 5 = [97, 110, 100] from rfl] at HN
  have HN := Lib.hid HN
  have HE := fun u => lending_5 x h5 u
  have HS := fun u => lsizes_5 x h5 u
  have H3 := fun u => lthird_5 x h5 u
  have HA := Lib.hid (fun u hu => topd_any x.a x.size ha.1 ha.2 sa u hu)
  have HB := Lib.hid (fun u hu => topd_any x.b x.size hb.1 hb.2 sb u hu)
  have H3 := Lib.hid H3
  have hc0 : (insC x)[0]? = some (.int .i64 5) := by rw [← h5]; rfl
  have hc16 : (insC x)[16]? = some (.bool false) := by rw [← hr]; rfl
  obtain ⟨p, hp⟩ : ∃ p, p = opdS x.a x.size := ⟨_, rfl⟩
  obtain ⟨q, hq⟩ : ∃ q, q = opdS x.b x.size := ⟨_, rfl⟩
  rw [← hp, ← hq] at hlen ⊢
  rw [← hp] at HA
  rw [← hq] at HB
  obtain ⟨J, hJ⟩ : ∃ J, J = joinS [44, 32] [32] [p, q, []] := ⟨_, rfl⟩
  have HJ := Lib.hid hJ
  rw [← hJ] at hlen ⊢
  have HLEN := Lib.hid hlen
  rw [show insV x = .agg (insL x).toArray from rfl] at HE HS
  have HE := Lib.hid HE
  have HS := Lib.hid HS
  clear hT ha hb sa sb hp hq hJ hlen h5 hr
  unfold insV
  go_enter Tryd.func11, Tryd.ntmps11
  go_wp2_with fail
  ((with_reducible refine (HN.out _).mono ?_); rintro e w1 ⟨rfl, b1⟩)
  obtain ⟨wB, hwB⟩ : ∃ wB, wB = (w.alloc (.cells (insC x) 32)).alloc (.cells #[.pointer none, .slice none 0 0] 57) := ⟨_, rfl⟩
  obtain ⟨B, hB⟩ : ∃ B, B = w.heap.size + 1 := ⟨_, rfl⟩
  have h0 : NInv w x B [] wB := by
    have i0 : IB w x wB := by rw [hwB]; exact HIB.out.on ((Below.refl _ _).alloc (Nat.le_refl _) _)
    exact ⟨i0, by rw [hwB]; exact Bld.start B _ (by rw [hB]; simp), HT.out.on i0.bel, by rw [hwB, hB]; simp⟩
  rw [← hwB] at b1
  rw [← hB]
  have HBN := Lib.hid (show w.heap.size < B by omega)
  have I1 := Lib.hid (h0.on b1)
  clear hwB hB h0 b1
  go_wp2_with fail
  ((with_reducible refine (bwrite_tx B [] [97, 110, 100] _ I1.out.bld (by decide)).mono ?_); rintro e w2 ⟨rfl, q1, q2, q3⟩)
  have I2 := Lib.hid (I1.out.write HBN.out HT.out q2 q1)
  clear q1 q2 q3
  have r2 := I2.out.ib.row
  have R2 := Lib.hid r2
  clear r2
  go_wp2_with (refine wpList_load_mid rfl 32 (.tmp 1) rfl w.heap.size 0 rfl (insL x) _ R2.out Tryd.underlying32 rfl info_ins ?_)
  ((with_reducible refine (HE.out _).mono ?_); rintro e w3 ⟨rfl, b3⟩)
  have I3 := Lib.hid (I2.out.on b3)
  clear b3
  go_wp2_with fail
  ((with_reducible refine (bwrite_tx B _ [] _ I3.out.bld (by decide)).mono ?_); rintro e w4 ⟨rfl, q1, q2, q3⟩)
  have I4 := Lib.hid (I3.out.write HBN.out HT.out q2 q1)
  clear q1 q2 q3
  have R4 := Lib.hid I4.out.ib.row
  go_wp2_with (refine wpList_load_mid rfl 32 (.tmp 1) rfl w.heap.size 0 rfl (insL x) _ R4.out Tryd.underlying32 rfl info_ins ?_)
  ((with_reducible refine (HS.out _).mono ?_); rintro e w5 ⟨rfl, b5⟩)
  have I5 := Lib.hid (I4.out.on b5)
  clear b5
  have I6 : Hid (NInv w x B [97, 110, 100] w5) := Lib.hid I5.out
  clear I5
  go_wp2_with fail
  refine wp_region_valsT (by kernel_rfl) 11 _ rfl rfl (by kernel_rfl) (fun _ => false) (by kernel_rfl) (NInv w x B [97, 110, 100]) MG (NV w B x p q) nv_stays (fun _ => Below.refl _ _) (I6.out.on ((Below.refl _ _).drew)) ?_ ?_
  · intro j o c u hj ho hinv hsz hbase hdep
    have b1 : c.tmps.getD 1 undef = .pointer (some ⟨w.heap.size, 0, none⟩) := hbase 1 (by kernel_rfl)
    have b4 : c.tmps.getD 4 undef = .int .i64 x.size := hbase 4 (by kernel_rfl)
    have b5 : c.tmps.getD 5 undef = .int .i64 x.size := hbase 5 (by kernel_rfl)
    clear hbase hsz
    have hj8 : j = 0 ∨ j = 1 ∨ j = 2 ∨ j = 3 ∨ j = 4 ∨ j = 5 ∨ j = 6 ∨ j = 7 ∨ j = 8 ∨ j = 9 ∨ j = 10 := by omega
    rcases hj8 with rfl | rfl | rfl | rfl | rfl | rfl | rfl | rfl | rfl | rfl | rfl
    · cases ho
      exact wp_val (by simp [execOp, Act.eval, b1, go_sem] <;> rfl) ⟨_, rfl, hinv, Below.refl _ _, rfl⟩
    · cases ho
      have e0 : c.tmps.getD 21 undef = .pointer (some ⟨w.heap.size, 3, none⟩) := hdep 0 (by kernel_rfl)
      exact wp_val (by simp [execOp, Act.eval, e0, Instr.loadAt, Instr.sureAddr, load_a12 hinv.ib] <;> rfl) ⟨_, rfl, hinv, Below.refl _ _, rfl⟩
    · cases ho
      exact wp_val (by simp [execOp, Act.eval, b4] <;> rfl) ⟨_, rfl, hinv, Below.refl _ _, rfl⟩
    · cases ho
      have e1 : c.tmps.getD 22 undef = opV x.a := hdep 1 (by kernel_rfl)
      have e2 : c.tmps.getD 23 undef = .int .i64 x.size := hdep 2 (by kernel_rfl)
      refine wp_call (by simp [execOp, Act.eval, e1, e2, go_sem] <;> rfl) ((HA.out u hinv.tab).mono ?_)
      rintro e u' ⟨rfl, hb⟩
      exact ⟨_, rfl, _, rfl, hinv.on hb, hb, rfl⟩
    · cases ho
      exact wp_val (by simp [execOp, Act.eval, b1, go_sem] <;> rfl) ⟨_, rfl, hinv, Below.refl _ _, rfl⟩
    · cases ho
      have e4 : c.tmps.getD 25 undef = .pointer (some ⟨w.heap.size, 9, none⟩) := hdep 4 (by kernel_rfl)
      exact wp_val (by simp [execOp, Act.eval, e4, Instr.loadAt, Instr.sureAddr, load_b12 hinv.ib] <;> rfl) ⟨_, rfl, hinv, Below.refl _ _, rfl⟩
    · cases ho
      exact wp_val (by simp [execOp, Act.eval, b5] <;> rfl) ⟨_, rfl, hinv, Below.refl _ _, rfl⟩
    · cases ho
      have e5 : c.tmps.getD 26 undef = opV x.b := hdep 5 (by kernel_rfl)
      have e6 : c.tmps.getD 27 undef = .int .i64 x.size := hdep 6 (by kernel_rfl)
      refine wp_call (by simp [execOp, Act.eval, e5, e6, go_sem] <;> rfl) ((HB.out u hinv.tab).mono ?_)
      rintro e u' ⟨rfl, hb⟩
      exact ⟨_, rfl, _, rfl, hinv.on hb, hb, rfl⟩
    · cases ho
      exact wp_val (by simp [execOp, Act.eval, b1, Instr.loadAt, Instr.sureAddr, load_ins12 hinv.ib] <;> rfl) ⟨_, rfl, hinv, Below.refl _ _, rfl⟩
    · cases ho
      have e8 : c.tmps.getD 29 undef = insV x := hdep 8 (by kernel_rfl)
      refine wp_call (by simp [execOp, Act.eval, e8, go_sem] <;> rfl) ((H3.out u).mono ?_)
      rintro e u' ⟨rfl, hb⟩
      exact ⟨_, rfl, _, rfl, hinv.on hb, hb, rfl⟩
    · cases ho
      have e3 : c.tmps.getD 24 undef = .string (tx p) := hdep 3 (by kernel_rfl)
      have e7 : c.tmps.getD 28 undef = .string (tx q) := hdep 7 (by kernel_rfl)
      have e9 : c.tmps.getD 30 undef = .string (tx []) := hdep 9 (by kernel_rfl)
      rw [Array.getD_eq_getD_getElem?] at e3 e7 e9
      have hb : Below u.heap.size u (u.alloc (.cells (strA [p, q, []]) 9)) := (Below.refl _ _).alloc (Nat.le_refl _) _
      exact wp_val (by simp [execOp, Act.eval, e3, e7, e9, go_sem] <;> rfl) ⟨_, rfl, hinv.on hb, hb, _, rfl, by have := hinv.lt; omega, heap_new rfl⟩
  · intro f u hinv hV
    obtain ⟨P, q7, hne, hPR⟩ := hV 10 (by decide)
    have q7 : f 10 = .slice (some ⟨P, 0, none⟩) 3 3 := q7
    generalize hc : laid _ f _ _ = c
    have b3 : c.tmps.getD 3 undef = .pointer (some ⟨B, 0, none⟩) := by rw [← hc]; kernel_rfl
    have b31 : c.tmps.getD 31 undef = .slice (some ⟨P, 0, none⟩) 3 3 := by rw [← hc, ← q7]; kernel_rfl
    have bs : c.tmps.size = 34 := by rw [← hc]; kernel_rfl
    have bd : c.defers = [] := by rw [← hc]; kernel_rfl
    clear hc
    have hlen : ([97, 110, 100] ++ joinS [44, 32] [32] [p, q, []]).length ≤ 50000 := by
      rw [← HJ.out]
      have := HLEN.out
      simp only [List.length_append, List.length_cons, List.length_nil]
      omega
    refine wp_call (by simp [execOp, Act.eval, b3, b31, go_sem] <;> exact ⟨rfl, rfl⟩) ((ltell_any B P [97, 110, 100] [32] [44, 32] _ u hinv.bld hPR hne (by simp) hlen).mono ?_)
    rintro e u' ⟨rfl, t1, t2, _⟩
    rw [← HJ.out] at t1
    refine ⟨_, rfl, ?_⟩
    show Exit.then _ _ Exit.normal (c.put (some 32) (.tuple #[])) u'
    generalize hc : c.put (some 32) (.tuple #[]) = c'
    have b3' : c'.tmps.getD 3 undef = .pointer (some ⟨B, 0, none⟩) := by rw [← hc, put_other _ _ _ _ (by decide), b3]
    have bs' : c'.tmps.size = 34 := by rw [← hc, put_size, bs]
    have bd' : c'.defers = [] := by rw [← hc, put_defers, bd]
    have HR := Lib.hid (bread_tx B _ u' t1 (Nat.lt_of_lt_of_le hinv.lt t2.size))
    have HX := Lib.hid (hinv.ib.bel.trans (t2.mono (Nat.le_of_lt HBN.out)))
    clear hc b3 b31 bs bd hlen t1 t2 hPR hne hV q7 hinv
    rw [Array.getD_eq_getD_getElem?] at b3'
    have g3 : ∀ h, c'.tmps[3]'h = .pointer (some ⟨B, 0, none⟩) := fun h => by rwa [Array.getElem?_eq_getElem h, Option.getD_some] at b3'
    go_wp2_with fail
    ((with_reducible refine (HR.out).mono ?_); rintro e w8 ⟨rfl, q2⟩)
    have HX8 := Lib.hid (HX.out.trans (q2.mono (Nat.le_of_lt HBN.out)))
    clear q2
    go_wp2_with fail
    go_ret
    exact ⟨by simp [bs'], HX8.out⟩
set_option maxRecDepth 512
def andI : Ins := ⟨5, 0, 4, ⟨1, 0, -1, -1, 1, 0⟩, ⟨4, 0, -1, -1, 1, 4294967264⟩, 0, false, 3⟩
set_option maxRecDepth 100000
theorem known12_of (HO : ∀ (v : Value) (w : World), Slc .u8 w v 3 (lst [131, 224, 224]) → Calls Tryd.prog 10 #[v] w fun e w' => e = .returned (insR (andI, 0)) ∧ Below w.heap.size w w')
    (HI : ∀ w : World, TabZ w → Calls Tryd.prog 11 #[insV andI] w fun e w' => e = .returned (.string { data := #[97, 110, 100, 32, 101, 97, 120, 44, 32, 48, 120, 102, 102, 102, 102, 102, 102, 101, 48] }) ∧ Below w.heap.size w w')
    (w : World) (hT : TabZ w) : Calls Tryd.prog 5 #[] w fun e w' => e = .returned (.bool true) ∧ Below w.heap.size w w' := by
  rw [show insV andI = .agg (insL andI).toArray from rfl] at HI
  have HO := Lib.hid HO
  have HI := Lib.hid HI
  have HTZ := Lib.hid hT
  clear hT
  have H1 := tname_any 61
  have H2 := tname_any 0
  rw [show tx (opN 61) = ({ data := #[117, 99, 111, 109, 105, 115, 100] } : ByteArray) from rfl] at H1
  rw [show tx (opN 0) = ({ data := #[63] } : ByteArray) from rfl] at H2
  have H1 := Lib.hid H1
  have H2 := Lib.hid H2
  go_enter Tryd.func5, Tryd.ntmps5
  go_wp2_with fail
  ((with_reducible refine (HO.out _ _ (slc_new w _ _ 3 3 _ (Nat.le_refl _) ?_)).mono ?_))
  · intro i hi
    rcases (show i = 0 ∨ i = 1 ∨ i = 2 by omega) with rfl | rfl | rfl <;> rfl
  rintro e w1 ⟨rfl, b1⟩
  have HB1 := Lib.hid ((below_last (Below.refl _ _) _).trans (b1.mono (by simp)))
  clear b1
  unfold insR
  have HT := Lib.hid (there_alloc_new w1 zeroA 32 18 (by decide))
  dsimp only
  go_wp2_with (first
    | (refine store_ins rfl (.tmp 1) (.tmp 6) rfl w1.heap.size rfl andI rfl HT.out ?_; intro Y hY hl; clear hl; obtain ⟨q1, q2, q3⟩ := stored12 hY; have HA := Lib.hid q1; have HB2 := Lib.hid (below_step HB1.out q2); clear hY q1 q2 q3)
    | (refine wpList_load_mid rfl 32 (.tmp 1) rfl w1.heap.size 0 rfl (insL andI) _ HA.out Tryd.underlying32 rfl info_ins ?_))
  ((with_reducible refine (HI.out _ (HTZ.out.on HB2.out)).mono ?_); rintro e w2 ⟨rfl, b2⟩)
  have HB3 := Lib.hid (below_step HB2.out b2)
  clear b2
  go_wp2_with fail
  ((with_reducible refine (H1.out _).mono ?_); rintro e w3 ⟨rfl, b3⟩)
  have HB4 := Lib.hid (below_step HB3.out b3)
  clear b3
  go_wp2_with fail
  ((with_reducible refine (H2.out _).mono ?_); rintro e w4 ⟨rfl, b4⟩)
  have HB5 := Lib.hid (below_step HB4.out b4)
  clear b4
  go_wp2_with fail
  go_returns
  exact ⟨rfl, HB5.out⟩
set_option maxRecDepth 512
theorem instr_and (w : World) (hT : TabZ w) : Calls Tryd.prog 11 #[insV andI] w fun e w' => e = .returned (.string { data := #[97, 110, 100, 32, 101, 97, 120, 44, 32, 48, 120, 102, 102, 102, 102, 102, 102, 101, 48] }) ∧ Below w.heap.size w w' :=
  (linstr_5 andI rfl rfl ⟨by decide, by decide⟩ ⟨by decide, by decide⟩ (by decide) (by decide) (by decide) w hT).mono fun _ _ h => ⟨h.1.trans (by kernel_rfl), h.2⟩
end Go.Proofs.YtgihiddiceinhaaDoor
