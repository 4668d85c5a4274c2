import Derived.Tactics
import Derived.Test.YtbbegbaaefgikaaKTF
import Derived.Test.YtbbegbaaefgikaaKTU
namespace Go.Proofs.Ytbbegbaaefgikaa
section
open Go.ChangeShapes Go.WideShapes Go.ChangeAt Go.RowKit
set_option maxRecDepth 100000
def BV14 (w0 : World) (p rb : Nat) (R : Nat → Prop) (g h : Int → Int) (pg : Int → Bool) (c d : Sg) : Nat → Value → World → Prop
  | 0, x, _ => x = .pointer (some ⟨p, 0, none⟩)
  | 1, x, _ => x = .pointer (some ⟨rb, 0, none⟩)
  | 2, x, _ => x = .pointer (some ⟨rb, 0, none⟩)
  | 3, x, _ => x = .pointer (some ⟨rb, 1, none⟩)
  | 4, x, _ => x = .agg (sgL c).toArray
  | 5, x, _ => x = .pointer (some ⟨rb, 0, none⟩)
  | 6, x, _ => x = .pointer (some ⟨rb, 0, none⟩)
  | 7, x, _ => x = .pointer (some ⟨rb, 6, none⟩)
  | 8, x, _ => x = .agg (sgL d).toArray
  | 9, x, u => ∃ b F, x = .pointer (some ⟨b, 0, none⟩) ∧ TwoB w0 u b F g pg rb R h c d
  | 10, x, _ => x = .pointer (some ⟨rb, 0, none⟩)
  | 11, x, u => ∃ b F, x = .pointer (some ⟨b, 0, none⟩) ∧ TwoB w0 u b F g pg rb R h c d
  | _, _, _ => True
theorem bv14_stays {w0 : World} {p rb : Nat} {R : Nat → Prop} {g h : Int → Int} {pg : Int → Bool} {c d : Sg} (i : Nat) (v : Value) (u u' : World) (hv : BV14 w0 p rb R g h pg c d i v u) (hb : Below u.heap.size u u') : BV14 w0 p rb R g h pg c d i v u' := by
  unfold BV14 at hv ⊢
  split at hv
  all_goals first
    | exact hv
    | (obtain ⟨b, F, e, t⟩ := hv; exact ⟨b, F, e, t.next hb⟩)
set_option maxHeartbeats 4000000
theorem boxes14_any (v : Value) (L : Nat) (bs : Nat → Int) (k : Int) (k0 : 0 ≤ k) (k1 : k < 4294967296) (hL : L < 2147483648) (hb0 : ∀ i, 0 ≤ bs i ∧ bs i < 256) (w : World) (hs : Slc .u8 w v L bs) :
    Calls Try.prog 7 #[v, .int .u32 k] w fun e w' => ∃ (b : Nat) (F : Nat → Prop) (pg : Int → Bool) (rb : Nat) (R : Nat → Prop), e = .returned (.tuple #[.pointer (some ⟨b, 0, none⟩), .pointer (some ⟨rb, 0, none⟩)]) ∧ TwoB w w' b F (boxG bs L k) pg rb R (boxG bs L k) (boxC L) boxD := by
  have HS := Lib.hid hs
  have HB0 := Lib.hid hb0
  obtain ⟨ad, cap, rfl⟩ := hs.len
  clear hs hb0
  go_enter Try.func7, Try.ntmps7
  go_wp2_with fail
  ((with_reducible refine (box_any _ L bs k k0 k1 hL HB0.out _ HS.out).mono ?_); rintro e w1 ⟨rb, R, rfl, hr, hro, b1⟩)
  have HR := Lib.hid hr
  have HRO := Lib.hid hro
  have HB1 := Lib.hid b1
  have HS1 := Lib.hid (HS.out.below b1)
  clear hr hro b1
  go_wp2_with fail
  ((with_reducible refine (min_new _ HB1.out).mono ?_); rintro e w2 ⟨p, F, rfl, hm, hF, b2⟩)
  have HT := Lib.hid (show TwoM w w2 p F (fun _ => 0) (fun _ => false) rb R (boxG bs L k) (boxC L) boxD from ⟨hm, HR.out.below b2, HRO.out, fun j hj hr => by have h1 := hF j hj; have h2 := HR.out.lt j hr; omega⟩)
  have HS2 := Lib.hid (HS1.out.below b2)
  have HO := Lib.hid (fun (h : 0 < L) (j : Nat) (hj : Value.ownBlock (.slice ad L cap) = some j) => (show ¬ F j from fun hf => by have h1 := hF j hf; have h2 := HS1.out.own_lt h j hj; omega))
  clear hm hF b2
  go_wp2_with fail
  ((with_reducible refine (two_write HT.out 20480 _ L bs (by decide) (by decide) hL HB0.out HS2.out HO.out).mono ?_); rintro e w3 ⟨F3, rfl, t3⟩)
  have HT := Lib.hid t3
  clear t3
  go_wp2_with fail
  ((with_reducible refine (fill256_any k k0 k1 _).mono ?_); rintro e w4 ⟨vf, rfl, hown, hsf, b4⟩)
  have HOF := Lib.hid (fun (_ : 0 < 256) (j : Nat) (hj : vf.ownBlock = some j) => (show ¬ F3 j from fun hf => by
    rw [hown] at hj
    injection hj with hj
    have := HT.out.own.mem.lt j hf
    omega))
  have HT := Lib.hid (HT.out.next b4)
  have HSF := Lib.hid hsf
  obtain ⟨af, cf, rfl⟩ := hsf.len
  clear hsf b4 hown
  go_wp2_with fail
  ((with_reducible refine (two_write HT.out 36864 _ 256 (fillB k) (by decide) (by decide) (by decide) (fillB_ok k) HSF.out HOF.out).mono ?_); rintro e w5 ⟨F5, rfl, t5⟩)
  rw [show writeG (writeG (fun _ => 0) 20480 bs L) 36864 (fillB k) 256 = boxG bs L k from rfl] at t5
  obtain ⟨pg, hpg⟩ : ∃ pg, writeP (writeP (fun _ => false) 20480 L) 36864 256 = pg := ⟨_, rfl⟩
  rw [hpg] at t5
  have HT := Lib.hid t5
  clear t5 hpg
  go_wp2_with fail
  refine wp_region_valsT (by kernel_rfl) 12 _ rfl rfl (by kernel_rfl) (fun _ => false) (by kernel_rfl) (fun u => TwoM w u p F5 (boxG bs L k) pg rb R (boxG bs L k) (boxC L) boxD) (fun u u' => Below u.heap.size u u') (BV14 w p rb R (boxG bs L k) (boxG bs L k) pg (boxC L) boxD) bv14_stays (fun _ => Below.refl _ _) (HT.out.next ((Below.refl _ _).drew)) ?_ ?_
  · intro n op c u hn ho hinv hsz hbase hdep
    have b7 : c.tmps.getD 7 undef = .pointer (some ⟨p, 0, none⟩) := hbase 7 (by kernel_rfl)
    have b6 : c.tmps.getD 6 undef = .pointer (some ⟨rb, 0, none⟩) := hbase 6 (by kernel_rfl)
    clear hbase hsz
    rcases (show n = 0 ∨ n = 1 ∨ n = 2 ∨ n = 3 ∨ n = 4 ∨ n = 5 ∨ n = 6 ∨ n = 7 ∨ n = 8 ∨ n = 9 ∨ n = 10 ∨ n = 11 by omega) with rfl | rfl | rfl | rfl | rfl | rfl | rfl | rfl | rfl | rfl | rfl | rfl
    · cases ho
      exact wp_val (by simp [execOp, Act.eval, b7, go_sem] <;> rfl) ⟨_, rfl, hinv, Below.refl _ _, rfl⟩
    · cases ho
      exact wp_val (by simp [execOp, Act.eval, b6, go_sem] <;> rfl) ⟨_, rfl, hinv, Below.refl _ _, rfl⟩
    · cases ho
      have e1 : c.tmps.getD 20 undef = .pointer (some ⟨rb, 0, none⟩) := hdep 1 (by kernel_rfl)
      exact wp_val (by simp [execOp, Act.eval, e1, go_sem] <;> rfl) ⟨_, rfl, hinv, Below.refl _ _, rfl⟩
    · cases ho
      have e2 : c.tmps.getD 21 undef = .pointer (some ⟨rb, 0, none⟩) := hdep 2 (by kernel_rfl)
      exact wp_val (by simp [execOp, Act.eval, e2, go_sem] <;> rfl) ⟨_, rfl, hinv, Below.refl _ _, rfl⟩
    · cases ho
      have e3 : c.tmps.getD 22 undef = .pointer (some ⟨rb, 1, none⟩) := hdep 3 (by kernel_rfl)
      have hl := load_range (P := Try.prog) (cs := sgL (boxC L)) 56 _ Try.underlying56 rfl info_sg hinv.ref.code
      exact wp_val (by simp [execOp, Act.eval, e3, Instr.loadAt, Instr.sureAddr, hl] <;> rfl) ⟨_, rfl, hinv, Below.refl _ _, rfl⟩
    · cases ho
      exact wp_val (by simp [execOp, Act.eval, b6, go_sem] <;> rfl) ⟨_, rfl, hinv, Below.refl _ _, rfl⟩
    · cases ho
      have e5 : c.tmps.getD 24 undef = .pointer (some ⟨rb, 0, none⟩) := hdep 5 (by kernel_rfl)
      exact wp_val (by simp [execOp, Act.eval, e5, go_sem] <;> rfl) ⟨_, rfl, hinv, Below.refl _ _, rfl⟩
    · cases ho
      have e6 : c.tmps.getD 25 undef = .pointer (some ⟨rb, 0, none⟩) := hdep 6 (by kernel_rfl)
      exact wp_val (by simp [execOp, Act.eval, e6, go_sem] <;> rfl) ⟨_, rfl, hinv, Below.refl _ _, rfl⟩
    · cases ho
      have e7 : c.tmps.getD 26 undef = .pointer (some ⟨rb, 6, none⟩) := hdep 7 (by kernel_rfl)
      have hl := load_range (P := Try.prog) (cs := sgL boxD) 56 _ Try.underlying56 rfl info_sg hinv.ref.data
      exact wp_val (by simp [execOp, Act.eval, e7, Instr.loadAt, Instr.sureAddr, hl] <;> rfl) ⟨_, rfl, hinv, Below.refl _ _, rfl⟩
    · cases ho
      have e0 : c.tmps.getD 19 undef = .pointer (some ⟨p, 0, none⟩) := hdep 0 (by kernel_rfl)
      have e4 : c.tmps.getD 23 undef = .agg (sgL (boxC L)).toArray := hdep 4 (by kernel_rfl)
      have e8 : c.tmps.getD 27 undef = .agg (sgL boxD).toArray := hdep 8 (by kernel_rfl)
      refine wp_call (by simp [execOp, Act.eval, e0, e4, e8, go_sem] <;> rfl) ((two_new hinv).mono ?_)
      rintro e u' ⟨b, F', rfl, t, hb⟩
      exact ⟨_, rfl, _, rfl, hinv.next hb, hb, b, F', rfl, t⟩
    · cases ho
      exact wp_val (by simp [execOp, Act.eval, b6, go_sem] <;> rfl) ⟨_, rfl, hinv, Below.refl _ _, rfl⟩
    · cases ho
      obtain ⟨b, F', e9, t⟩ := hdep 9 (by kernel_rfl)
      have e9 : c.tmps.getD 28 undef = .pointer (some ⟨b, 0, none⟩) := e9
      exact wp_val (by simp [execOp, Act.eval, e9, go_sem] <;> rfl) ⟨_, rfl, hinv, Below.refl _ _, b, F', rfl, t⟩
  · intro f u hinv hV
    obtain ⟨b, F', q11, t⟩ := hV 11 (by decide)
    have q11 : f 11 = .pointer (some ⟨b, 0, none⟩) := q11
    have q10 : f 10 = .pointer (some ⟨rb, 0, none⟩) := hV 10 (by decide)
    have HT := Lib.hid t
    generalize hc : laid _ f _ _ = c
    have b4 : c.tmps.getD 4 undef = .pointer (some ⟨b, 0, none⟩) := by rw [← hc, ← q11]; kernel_rfl
    have b29 : c.tmps.getD 29 undef = .pointer (some ⟨rb, 0, none⟩) := by rw [← hc, ← q10]; kernel_rfl
    have bs' : c.tmps.size = 30 := by rw [← hc]; kernel_rfl
    have bd : c.defers = [] := by rw [← hc]; kernel_rfl
    clear hc hV q10 q11 hinv t
    refine wp_val (v := .pointer (some ⟨rb, 0, none⟩)) (by simp [execOp, Act.eval, b29, go_sem] <;> rfl) ?_
    show Exit.then _ _ Exit.normal (c.put (some 5) (.pointer (some ⟨rb, 0, none⟩))) u
    generalize hc : c.put (some 5) (Value.pointer (some ⟨rb, 0, none⟩)) = c'
    have b4' : c'.tmps.getD 4 undef = .pointer (some ⟨b, 0, none⟩) := by rw [← hc, put_other _ _ _ _ (by decide), b4]
    have b5' : c'.tmps.getD 5 undef = .pointer (some ⟨rb, 0, none⟩) := by rw [← hc]; exact put_same _ _ _ (by rw [bs']; decide)
    have bs'' : c'.tmps.size = 30 := by rw [← hc, put_size, bs']
    have bd' : c'.defers = [] := by rw [← hc, put_defers, bd]
    clear hc b4 b29 bs' bd
    go_wp2_with fail
    refine bodyPost_ret (v := .tuple #[.pointer (some ⟨b, 0, none⟩), .pointer (some ⟨rb, 0, none⟩)]) ?_ bd' ⟨b, F', pg, rb, R, rfl, HT.out⟩
    have hr : Try.f7.results = #[.tmp 4, .tmp 5] := by kernel_rfl
    unfold results
    rw [hr]
    rw [Array.getD_eq_getD_getElem?] at b4' b5'
    simpa using ⟨b4', b5'⟩
end
section
open Go.ChangeShapes Go.WideShapes Go.ChangeAt Go.RowKit
set_option maxRecDepth 100000
def staP : Sta := ⟨fun i => if i = 0 then 5 else if i = 3 then 7 else 0, 0, false, false, false, false, false, false, fun _ => 0⟩
theorem staP_ok : StaOk staP := ⟨fun i _ => by show 0 ≤ (if i = 0 then (5 : Int) else if i = 3 then 7 else 0) ∧ (if i = 0 then (5 : Int) else if i = 3 then 7 else 0) < 4294967296; split <;> first | decide | (split <;> decide), fun _ _ => ⟨Int.le_refl _, by show (0 : Int) < _; decide⟩, ⟨Int.le_refl _, by show (0 : Int) < _; decide⟩⟩
set_option maxRecDepth 100000
set_option maxHeartbeats 8000000
theorem known14_any (w : World) : Calls Try.prog 5 #[] w fun e w' => e = .returned (.bool true) ∧ Below w.heap.size w w' := by
  have H1 := fun u => of_any staP (⟨3, 0, 0, 3, 4, 8⟩ : Opd) staP_ok u
  rw [show ofF staP (⟨3, 0, 0, 3, 4, 8⟩ : Opd) = 41 by decide +kernel, show opV (⟨3, 0, 0, 3, 4, 8⟩ : Opd) = .agg #[.int .i64 3, .int .i64 0, .int .i64 0, .int .i64 3, .int .i64 4, .int .u32 8] from rfl, show staV staP = .agg (staL staP).toArray from rfl] at H1
  have H1 := Lib.hid H1
  go_enter Try.func5, Try.ntmps5
  go_upto_region 3 with fail
  obtain ⟨W, hW⟩ : ∃ W, W = w.alloc (.cells (staL staP).toArray 29) := ⟨_, rfl⟩
  have hW' : _ = W := hW.symm
  rw [show (staL staP).toArray = #[.int .u32 5, .int .u32 0, .int .u32 0, .int .u32 7, .int .u32 0, .int .u32 0, .int .u32 0, .int .u32 0, .int .u32 0, .bool false, .bool false, .bool false, .bool false, .bool false, .bool false, .int .u64 0, .int .u64 0, .int .u64 0, .int .u64 0, .int .u64 0, .int .u64 0, .int .u64 0, .int .u64 0] from rfl] at hW'
  rw [hW']
  have hb : W.heap[w.heap.size]? = some (.cells (staL staP).toArray 29 (0, 0)) := by rw [hW]; show (w.heap.push _)[w.heap.size]? = _; simp
  have HB := Lib.hid (show Below w.heap.size w W by rw [hW]; exact below_last (Below.refl _ _) _)
  have HR := Lib.hid (range_in13 hb 0 (staL staP) rfl)
  clear hb hW hW'
  go_wp2_with (refine wpList_load_mid rfl 29 (.tmp 1) rfl w.heap.size 0 rfl (staL staP) _ HR.out Try.underlying29 rfl info_sta ?_)
  ((with_reducible refine (H1.out _).mono ?_); rintro e w2 ⟨rfl, b2⟩)
  have HB2 := Lib.hid (below_step HB.out b2)
  clear b2
  go_wp2_with fail
  go_ret
  exact ⟨rfl, HB2.out⟩
end
section
open Go.ChangeShapes Go.WideShapes Go.ChangeAt Go.RowKit
set_option maxRecDepth 100000
theorem sta_eql (w : World) (s : Sta) (hs : WfS s) : (binOp .eql 29 (staV s) (staV s)).run Try.prog w = .ok (.bool true) w := by
  obtain ⟨r, hr, hi⟩ := sta_eqR w s s hs hs
  have : r = true := hi.2 rfl
  subst this
  exact hr
theorem wpList_eql_sta {ops : Array Oper} {rest : List Oper} {op : Oper} {a : Act} {w : World} {Q : Exit → Act → World → Prop} (hgd : op.guard = none) (x y : Operand) (ho : op.op = .binOp .eql 29 x y 29) (s : Sta) (hs : WfS s) (hx : a.eval x = staV s) (hy : a.eval y = staV s)
    (hK : wpList Try.prog ops Q rest (a.put op.dst (.bool true)) w) : wpList Try.prog ops Q (op :: rest) a w :=
  wpList_plain hgd fun _ hh => by
    have hg : (eqGuard .eql 29 x y (staV s) (staV s)).run Try.prog w = .ok () w := run_eqGuard_agg w .eql 29 x y _ _ sta_guard1
    unfold Oper.wp execOp
    rw [ho]
    simp only [Sem.run_bind, hx, hy, hg, Result.andThen_ok, sta_eql w s hs, Sem.run_pure]
    exact hh _ _ hK
end
section
open Go
set_option maxRecDepth 100000
theorem wpList_met {P : Program} {ops : Array Oper} {Q : Exit → Act → World → Prop} {a : Act} {w : World} {rest : List Oper} {d : Option Tmp} {op : Op} {ty : TypeId} {pos : String} {af : Array Edge} {g : Option (Nat × Bool)} (hw : Region.wanted (Oper.mk d op ty pos af g) (yielded ops a.tmps) = true)
    (h : wpList P ops Q (Oper.mk d op ty pos af none :: rest) a w) : wpList P ops Q (Oper.mk d op ty pos af g :: rest) a w := by
  unfold wpList at h ⊢
  rw [if_pos hw]
  rw [if_pos (by simp [Region.wanted])] at h
  exact h
end
end Go.Proofs.Ytbbegbaaefgikaa
