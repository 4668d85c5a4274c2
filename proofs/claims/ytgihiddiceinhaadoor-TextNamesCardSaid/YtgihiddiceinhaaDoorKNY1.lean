import Derived.Deep.DeepCutAuto
import Derived.Test.YtgihiddiceinhaaDoorKNRef10x1
import Derived.Test.YtgihiddiceinhaaDoorKNRef10x2
import Derived.Test.YtgihiddiceinhaaDoorKNRef10x3
import Derived.Test.YtgihiddiceinhaaDoorKNRef10x4
import Derived.Test.YtgihiddiceinhaaDoorKNU
import Derived.Test.YtgihiddiceinhaaDoorKNV
namespace Go.Proofs.YtgihiddiceinhaaDoor
open Go.ChangeShapes Go.WideShapes Go.ChangeAt Go.RowKit
def lets1 (c : UInt8) : Bool := c == 69 || c == 71 || c == 103 || c == 101 || c == 88 || c == 89
def lets2 (c : UInt8) : Bool := c == 71 || c == 69 || c == 76 || c == 66 || c == 73 || c == 98
def lets3 (c : UInt8) : Bool := c == 114 || c == 97 || c == 73 || c == 98 || c == 109
def lets4 (c : UInt8) : Bool := c == 105 || c == 119 || c == 69 || c == 49 || c == 99 || c == 98
def howOk (l : List UInt8) : Bool := decide (l.length ≤ 100) && (l.all lets1 || l.all lets2 || l.all lets3 || l.all lets4)
theorem rmade_ok (i : Ins) (f : Frm) (rm : Opd) (reg : Int) (v : Value) (L : Nat) (bs : Nat → Int) (k0 : Nat) (hb : ∀ i, 0 ≤ bs i ∧ bs i < 256) (w : World) (hs : Slc .u8 w v L bs) (hL : L ≤ 1099511627776) (hk0 : k0 ≤ L) (hh : howOk f.how = true) :
    Calls Tryd.prog 29 #[insV i, frmV f, opV rm, .int .i64 reg, v, .int .i64 (k0 : Int)] w fun e w' => e = .returned (insR (madeF i f rm reg L bs k0)) ∧ Below w.heap.size w w' := by
  unfold howOk at hh
  simp only [Bool.and_eq_true, Bool.or_eq_true, decide_eq_true_eq, List.all_eq_true] at hh
  obtain ⟨hl, ((h | h) | h) | h⟩ := hh
  · exact rmade_1 i f rm reg v L bs k0 hb w hs hL hk0 hl (fun c hc => by have := h c hc; simp [lets1] at this; (rcases this with ((((h | h) | h) | h) | h) | h <;> simp [h]))
  · exact rmade_2 i f rm reg v L bs k0 hb w hs hL hk0 hl (fun c hc => by have := h c hc; simp [lets2] at this; (rcases this with ((((h | h) | h) | h) | h) | h <;> simp [h]))
  · exact rmade_3 i f rm reg v L bs k0 hb w hs hL hk0 hl (fun c hc => by have := h c hc; simp [lets3] at this; (rcases this with ((((h | h) | h) | h) | h) | h <;> simp [h]))
  · exact rmade_4 i f rm reg v L bs k0 hb w hs hL hk0 hl (fun c hc => by have := h c hc; simp [lets4] at this; (rcases this with ((((h | h) | h) | h) | h) | h <;> simp [h]))
def frmL (g : Frm) : List Value := [.int .i64 g.op, .int .i64 g.cond, .int .i64 g.size, .string ⟨g.how.toArray⟩, .int .i64 g.c]
theorem info_frm : (Tryd.prog.info? 43).map (·.size) = some 5 := by kernel_rfl
theorem frm_one (g : Frm) : (frmL g).toArray.all (·.oneCell') = true := by simp [frmL, Value.oneCell']
structure FInv (w : World) (g : Frm) (u : World) : Prop where
  below : Below w.heap.size w u
  frm : u.rangeAt (w.heap.size + 1) 0 (frmL g)
  res : u.there w.heap.size 0 18
theorem FInv.lt {w : World} {g : Frm} {u : World} (h : FInv w g u) : w.heap.size + 1 < u.heap.size := cell_lt (h.frm 0 _ rfl)
theorem FInv.ext {w : World} {g : Frm} {u u' : World} (h : FInv w g u) (hb : Below u.heap.size u u') : FInv w g u' :=
  ⟨h.below.trans (hb.mono h.below.size), range_but (F := fun _ => False) (But.of_below hb) (fun h => h) h.frm, there_but (F := fun _ => False) (But.of_below hb) (fun h => h) (by have := h.lt; omega) h.res⟩
theorem FInv.drawn {w : World} {g : Frm} {u : World} (h : FInv w g u) : FInv w g { u with drawn := u.drawn + 1 } := ⟨h.below.drew, h.frm, h.res⟩
theorem FInv.put {w : World} {g : Frm} {u : World} (h : FInv w g u) (k o : Nat) (hk : w.heap.size + 1 < k) (vs : List Value) : FInv w g (u.setCells k o vs) :=
  ⟨below_setCells (by omega) _ _ _ h.below, World.rangeAt_setCells_apart h.frm k o vs (.inl (by omega)), World.there_setCells h.res _ _ _⟩
theorem frm_cells {w : World} {g : Frm} {u : World} (h : FInv w g u) : u.cell? ⟨w.heap.size + 1, 0, none⟩ = some (.int .i64 g.op) ∧ u.cell? ⟨w.heap.size + 1, 1, none⟩ = some (.int .i64 g.cond) ∧ u.cell? ⟨w.heap.size + 1, 2, none⟩ = some (.int .i64 g.size) ∧ u.cell? ⟨w.heap.size + 1, 3, none⟩ = some (.string ⟨g.how.toArray⟩) :=
  ⟨h.frm 0 _ rfl, h.frm 1 _ rfl, h.frm 2 _ rfl, h.frm 3 _ rfl⟩
def SG (C : List Value) (u u' : World) : Prop := u.heap.size ≤ u'.heap.size ∧ (∀ k n, u.there k 0 n → u'.there k 0 n) ∧ (∀ k, u.rangeAt k 0 C → 0 < C.length → u'.rangeAt k 0 C)
theorem sg_refl {C : List Value} (u : World) : SG C u u := ⟨Nat.le_refl _, fun _ _ h => h, fun _ h _ => h⟩
theorem there_lt' {u : World} {k n : Nat} (h : u.there k 0 n) (hn : 0 < n) : k < u.heap.size := by
  obtain ⟨x, hx⟩ := Option.isSome_iff_exists.1 (h 0 hn).1
  exact cell_lt hx
theorem sg_below {C : List Value} {u u' : World} (hb : Below u.heap.size u u') : SG C u u' :=
  ⟨hb.size, fun k n h => by
    by_cases hn : 0 < n
    · exact there_but (F := fun _ => False) (But.of_below hb) (fun h => h) (there_lt' h hn) h
    · exact fun j hj => by omega, fun k h _ => range_but (F := fun _ => False) (But.of_below hb) (fun h => h) h⟩
theorem sg_put {C : List Value} {u : World} {k : Nat} (ht : u.there k 0 C.length) : SG C u (u.setCells k 0 C) := by
  refine ⟨by rw [setCells_size]; exact Nat.le_refl _, fun k' n h => World.there_setCells h _ _ _, fun k' h _ => ?_⟩
  by_cases hk : k' = k
  · subst hk; exact World.rangeAt_setCells_same u k' 0 C ht
  · exact World.rangeAt_setCells_apart h k 0 C (.inl hk)
theorem ini0 (w : World) : Below w.heap.size w ((w.alloc (.cells zeroA 32)).alloc (.cells #[.int .i64 0, .int .i64 0, .int .i64 0, .string ⟨#[]⟩, .int .i64 0] 43)) ∧ ((w.alloc (.cells zeroA 32)).alloc (.cells #[.int .i64 0, .int .i64 0, .int .i64 0, .string ⟨#[]⟩, .int .i64 0] 43)).heap.size = w.heap.size + 2 ∧ ((w.alloc (.cells zeroA 32)).alloc (.cells #[.int .i64 0, .int .i64 0, .int .i64 0, .string ⟨#[]⟩, .int .i64 0] 43)).there w.heap.size 0 18 ∧ ((w.alloc (.cells zeroA 32)).alloc (.cells #[.int .i64 0, .int .i64 0, .int .i64 0, .string ⟨#[]⟩, .int .i64 0] 43)).there (w.heap.size + 1) 0 5 :=
  ⟨below_last (below_last (Below.refl _ w) _) _, by simp, there_alloc _ (by simp) (there_alloc_new w _ _ _ (by decide)), by have := there_alloc_new (w.alloc (.cells zeroA 32)) #[.int .i64 0, .int .i64 0, .int .i64 0, .string ⟨#[]⟩, .int .i64 0] 43 5 (by decide); simpa using this⟩
def i0 (g : Frm) (rep : Bool) : Ins := ⟨g.op, g.cond, g.size, noneO, noneO, 0, rep, 0⟩
def SV (w : World) (g : Frm) (rep : Bool) : Nat → Value → Value → World → Prop
  | 0, v, _, _ => v = .pointer (some ⟨w.heap.size + 1, 0, none⟩)
  | 1, v, _, _ => v = .int .i64 g.op
  | 2, v, _, _ => v = .pointer (some ⟨w.heap.size + 1, 1, none⟩)
  | 3, v, _, _ => v = .int .i64 g.cond
  | 4, v, _, _ => v = .pointer (some ⟨w.heap.size + 1, 2, none⟩)
  | 5, v, _, _ => v = .int .i64 g.size
  | 6, v, _, _ => v = opV noneO
  | 7, v, _, _ => v = opV noneO
  | 8, v, _, _ => v = .bool rep
  | 9, v, _, _ => v = .agg (insL (i0 g rep)).toArray
  | 10, v, _, u => ∃ k, v = .pointer (some ⟨k, 0, none⟩) ∧ w.heap.size + 1 < k ∧ u.there k 0 18
  | 11, _, x, u => ∃ k, x = .pointer (some ⟨k, 0, none⟩) ∧ w.heap.size + 1 < k ∧ u.rangeAt k 0 (insL (i0 g rep))
  | _, _, _, _ => True
theorem sv_stays {w : World} {g : Frm} {rep : Bool} (i : Nat) (v x : Value) (u : World) (_ : Unit) (u' : World) (_ : Unit) (h : SV w g rep i v x u) (hg : SG (insL (i0 g rep)) u u') : SV w g rep i v x u' := by
  unfold SV at h ⊢
  split at h
  all_goals first
    | exact h
    | (obtain ⟨k, h1, h2, h3⟩ := h; exact ⟨k, h1, h2, hg.2.1 k 18 h3⟩)
    | (obtain ⟨k, h1, h2, h3⟩ := h; exact ⟨k, h1, h2, hg.2.2 k h3 (show 0 < 18 by decide)⟩)
theorem store_frm {ops : Array Oper} {rest : List Oper} {op : Oper} {a : Act} {w : World} {Q : Exit → Act → World → Prop} (hgd : op.guard = none) (x y : Operand) (ho : op.op = .store 43 x y)
    (R : Nat) (hx : a.eval x = .pointer (some ⟨R, 0, none⟩)) (q : Frm) (hy : a.eval y = frmV q) (ht : w.there R 0 5)
    (hK : ∀ Y, Y = w.setCells R 0 (frmL q) → wpList Tryd.prog ops Q rest (a.put op.dst undef) Y) : wpList Tryd.prog ops Q (op :: rest) a w :=
  store_mid hgd _ x y ho R 0 hx (frmL q) hy info_frm (frm_one q) ht hK
theorem behF_bd (L : Nat) (bs : Nat → Int) (k : Nat) : -1 ≤ behF L bs k ∧ behF L bs k < 8 := by unfold behF; split <;> omega
theorem below_undrewN {W u : World} {nq : Nat} (h : Below (W.drewN nq).heap.size (W.drewN nq) u) : Below W.heap.size W u := by
  rw [drewN_size] at h
  exact (below_drN (Below.refl _ W) nq).trans h
set_option maxRecDepth 100000
set_option maxHeartbeats 4000000
theorem rone_b_norm (v : Value) (L : Nat) (bs : Nat → Int) (hb : ∀ i, 0 ≤ bs i ∧ bs i < 256) (hL : L ≤ 1099511627776) (w : World) (hs : Slc .u8 w v L bs) (h1 : bs 0 = 243) (hL2 : 2 ≤ L) (z : Int) (hz : z = 164 ∨ z = 165 ∨ z = 170 ∨ z = 171) (hset : bs 1 = z) (g : Frm) (ok wait : Bool) (hrow : firstF z (-1) false = (g, ok, wait)) (hh : howOk g.how = true) (hhas : hasF g.how = false) :
    Calls Tryd.prog 10 #[v] w fun e w' => e = .returned (insR (madeF (i0 g true) g zeroO 0 L bs 2)) ∧ Below w.heap.size w w' := by
  rcases id hs with ⟨_, h00⟩ | ⟨ad, cap, rfl, hl, hc⟩
  · omega
  have hA0 : w.cell? ad = some (.int .u8 (bs 0)) := by simpa [Addr.add] using hc 0 (by omega)
  have hA1 : ∀ o, (w.alloc o).cell? ad = some (.int .u8 (bs 0)) := fun o => cell_alloc hA0
  have hB1 : w.cell? ⟨ad.block, ad.off + 1, none⟩ = some (.int .u8 (bs 1)) := by simpa [Addr.add] using hc 1 (by omega)
  have hC1 : ∀ o o', ((w.alloc o).alloc o').cell? ⟨ad.block, ad.off + 1, none⟩ = some (.int .u8 (bs 1)) := fun o o' => cell_alloc (cell_alloc hB1)
  have jx0 : (0 : Int) < (L : Int) := by omega
  have e0 : ((L : Int) == 0) = false := by simp; omega
  have e0' : (L == 0) = false := by simp; omega
  have jx1 : (1 : Int) < (L : Int) := by omega
  have hBW : ∀ W, Below w.heap.size w W → Slc .u8 W (.slice (some ad) L cap) L bs := fun W hW => hs.below hW
  have HSL := Lib.hid hBW
  obtain ⟨hbl0, hsz0, hR0, hF0⟩ := ini0 w
  have HBL0 := Lib.hid hbl0
  have HSZ0 := Lib.hid hsz0
  have HR0 := Lib.hid hR0
  have HF0 := Lib.hid hF0
  clear hbl0 hsz0 hR0 hF0
  have HFI := first_any z (-1) false (by omega) (by omega) (by decide) (by decide)
  rw [hrow] at HFI
  have HFI : Hid (∀ W, Calls Tryd.prog 23 #[.int .u8 z, .int .i64 (-1), .bool false] W fun e w' => e = .returned (.tuple #[frmV g, .bool ok, .bool wait]) ∧ Below W.heap.size W w') := HFI
  have l2 : decide ((L : Int) < 2) = false := by simp; omega
  have l2' : decide (L < 2) = false := by simp; omega
  rw [h1] at hA0 hA1
  rw [hset] at hB1 hC1
  have hMD : ∀ W, Below w.heap.size w W → Calls Tryd.prog 29 #[insV (i0 g true), frmV g, opV zeroO, .int .i64 0, .slice (some ad) L cap, .int .i64 2] W fun e w' => e = .returned (insR (madeF (i0 g true) g zeroO 0 L bs 2)) ∧ Below W.heap.size W w' := fun W hW => rmade_ok (i0 g true) g zeroO 0 _ L bs 2 hb W (HSL.out W hW) hL (by omega) hh
  generalize madeF (i0 g true) g zeroO 0 L bs 2 = m at *
  have HMD : Hid (∀ W, Below w.heap.size w W → Calls Tryd.prog 29 #[insV (i0 g true), frmV g, opV zeroO, .int .i64 0, .slice (some ad) L cap, .int .i64 2] W fun e w' => e = .returned (.tuple #[insV m.1, .int .i64 m.2]) ∧ Below W.heap.size W w') := hMD
  clear hMD
  have hsz : (⟨g.how.toArray⟩ : ByteArray).size ≤ 100 := by unfold howOk at hh; simp only [Bool.and_eq_true, decide_eq_true_eq] at hh; show g.how.toArray.size ≤ 100; simpa using hh.1
  have HHAS := Lib.hid hhas
  clear hs hb hc h1 hset hrow hL hl hBW hh hhas
  rcases hz with rfl | rfl | rfl | rfl
  all_goals
    go_enter Tryd.func10, Tryd.ntmps10
    go_wp2_with fail
    refine (HFI.out _).mono ?_
    rintro e u2 ⟨rfl, hb2⟩
    have hRu := there_but (F := fun _ => False) (But.of_below hb2) (fun h => h) (Nat.lt_of_lt_of_eq (by omega) HSZ0.out.symm) HR0.out
    have HFu := Lib.hid (there_but (F := fun _ => False) (But.of_below hb2) (fun h => h) (Nat.lt_of_lt_of_eq (by omega) HSZ0.out.symm) HF0.out)
    have HRu := Lib.hid hRu
    have HBu := Lib.hid (HBL0.out.trans (hb2.mono HBL0.out.size))
    clear hb2 hRu
    go_upto_region 38 with (refine store_frm rfl (.tmp 6) (.tmp 73) rfl (w.heap.size + 1) rfl g rfl HFu.out ?_; intro Z hZ; have HF := Lib.hid (show FInv w g Z by rw [hZ]; exact ⟨below_setCells (by omega) _ _ _ HBu.out, World.rangeAt_setCells_same _ _ _ _ HFu.out, World.there_setCells HRu.out _ _ _⟩); clear hZ)
    rw [show ∀ (a : Act), a.put none undef = a from fun _ => rfl]
    have hhas := HHAS.out
    go_cut [13] (fun s13 wx => ∃ k, s13 = .pointer (some ⟨k, 0, none⟩) ∧ w.heap.size + 1 < k ∧ wx.rangeAt k 0 (insL (i0 g true)) ∧ FInv w g wx)
    case first =>
      refine wp_region_mind (γ := Unit) (by kernel_rfl) (fun i => i == 11) (fun i => if i = 11 then 10 else i) (by kernel_rfl) () (fun u _ => FInv w g u) (fun u _ u' _ => SG (insL (i0 g true)) u u') (fun i v x u _ => SV w g true i v x u) sv_stays (fun u _ => sg_refl u) HF.out.drawn ?_ ?_
      · intro i o b u gg ho hinv hsz hbase hdep
        have hi : i < 12 := (Array.getElem?_eq_some_iff.1 ho).1
        have b6 : b.tmps.getD 6 undef = .pointer (some ⟨w.heap.size + 1, 0, none⟩) := hbase 6 (by kernel_rfl)
        have b8 : b.tmps.getD 8 undef = .bool true := hbase 8 (by kernel_rfl)
        obtain ⟨f0, f1, f2, f3⟩ := frm_cells hinv
        clear hbase hsz
        have h12 : i = 0 ∨ i = 1 ∨ i = 2 ∨ i = 3 ∨ i = 4 ∨ i = 5 ∨ i = 6 ∨ i = 7 ∨ i = 8 ∨ i = 9 ∨ i = 10 ∨ i = 11 := by omega
        rcases h12 with rfl | rfl | rfl | rfl | rfl | rfl | rfl | rfl | rfl | rfl | rfl | rfl
        · cases ho
          exact wp_val (by simp [execOp, Act.eval, b6, go_sem] <;> rfl) ⟨_, (), rfl, hinv, sg_refl _, rfl⟩
        · cases ho
          have d : b.tmps.getD 111 undef = .pointer (some ⟨w.heap.size + 1, 0, none⟩) := hdep 0 (by kernel_rfl)
          exact wp_val (by simp [execOp, Act.eval, d, go_sem, f0] <;> rfl) ⟨_, (), rfl, hinv, sg_refl _, rfl⟩
        · cases ho
          exact wp_val (by simp [execOp, Act.eval, b6, go_sem] <;> rfl) ⟨_, (), rfl, hinv, sg_refl _, rfl⟩
        · cases ho
          have d : b.tmps.getD 113 undef = .pointer (some ⟨w.heap.size + 1, 1, none⟩) := hdep 2 (by kernel_rfl)
          exact wp_val (by simp [execOp, Act.eval, d, go_sem, f1] <;> rfl) ⟨_, (), rfl, hinv, sg_refl _, rfl⟩
        · cases ho
          exact wp_val (by simp [execOp, Act.eval, b6, go_sem] <;> rfl) ⟨_, (), rfl, hinv, sg_refl _, rfl⟩
        · cases ho
          have d : b.tmps.getD 115 undef = .pointer (some ⟨w.heap.size + 1, 2, none⟩) := hdep 4 (by kernel_rfl)
          exact wp_val (by simp [execOp, Act.eval, d, go_sem, f2] <;> rfl) ⟨_, (), rfl, hinv, sg_refl _, rfl⟩
        · cases ho
          refine wp_call (by simp [execOp, go_sem] <;> rfl) ((rnone_any u).mono ?_)
          rintro e u' ⟨rfl, rfl⟩
          exact ⟨_, rfl, _, (), rfl, hinv.ext (below_last (Below.refl _ _) _), sg_below (below_last (Below.refl _ _) _), rfl⟩
        · cases ho
          refine wp_call (by simp [execOp, go_sem] <;> rfl) ((rnone_any u).mono ?_)
          rintro e u' ⟨rfl, rfl⟩
          exact ⟨_, rfl, _, (), rfl, hinv.ext (below_last (Below.refl _ _) _), sg_below (below_last (Below.refl _ _) _), rfl⟩
        · cases ho
          exact wp_val (by simp [execOp, Act.eval, b8] <;> rfl) ⟨_, (), rfl, hinv, sg_refl _, rfl⟩
        · cases ho
          have d1 : b.tmps.getD 112 undef = .int .i64 g.op := hdep 1 (by kernel_rfl)
          have d3 : b.tmps.getD 114 undef = .int .i64 g.cond := hdep 3 (by kernel_rfl)
          have d5 : b.tmps.getD 116 undef = .int .i64 g.size := hdep 5 (by kernel_rfl)
          have d6 : b.tmps.getD 117 undef = .agg #[.int .i64 0, .int .i64 0, .int .i64 (-1), .int .i64 (-1), .int .i64 1, .int .u32 0] := hdep 6 (by kernel_rfl)
          have d7 : b.tmps.getD 118 undef = .agg #[.int .i64 0, .int .i64 0, .int .i64 (-1), .int .i64 (-1), .int .i64 1, .int .u32 0] := hdep 7 (by kernel_rfl)
          have d8 : b.tmps.getD 119 undef = .bool true := hdep 8 (by kernel_rfl)
          rw [Array.getD_eq_getD_getElem?] at d1 d3 d5 d6 d7 d8
          exact wp_val (by simp [execOp, Act.eval, d1, d3, d5, d6, d7, d8, go_sem] <;> rfl) ⟨_, (), rfl, hinv, sg_refl _, rfl⟩
        · cases ho
          exact wp_val (u' := u.alloc (.cells zeroA 32)) (v := .pointer (some ⟨u.heap.size, 0, none⟩)) (by simp [execOp, go_sem] <;> rfl) ⟨_, (), rfl, hinv.ext (below_last (Below.refl _ _) _), sg_below (below_last (Below.refl _ _) _), u.heap.size, rfl, hinv.lt, there_alloc_new u _ _ 18 (by decide)⟩
        · cases ho
          have d9 : b.tmps.getD 120 undef = .agg (insL (i0 g true)).toArray := hdep 9 (by kernel_rfl)
          obtain ⟨k, hk1, hk2, hk3⟩ := hdep 10 (by kernel_rfl)
          have d10 : b.tmps.getD 13 undef = .pointer (some ⟨k, 0, none⟩) := hk1
          refine wp_store_mid 32 (.tmp 13) (.tmp 120) rfl k 0 (insL (i0 g true)).toArray d10 d9 hk3 info_ins (ins_one _) ⟨_, (), rfl, hinv.put k 0 hk2 _, sg_put hk3, k, hk1, hk2, World.rangeAt_setCells_same u k 0 _ hk3⟩
      · intro ff u gg hinv hVV
        obtain ⟨k, hk1, hk2, hk3⟩ := hVV 11 (by decide)
        have h13 : ff 10 = .pointer (some ⟨k, 0, none⟩) := hk1
        simp only [List.size_toArray, List.length_cons, List.length_nil, Nat.reduceAdd, laid, List.getElem?_toArray, List.getElem?_cons_zero, List.getElem?_cons_succ, Option.bind_some, Act.put, List.setIfInBounds_toArray, List.set_cons_zero, List.set_cons_succ]
        go_wp2_with fail
        go_meet
        case rel => exact ⟨k, by first | rfl | exact h13, hk2, hk3, hinv⟩
    case rest =>
      obtain ⟨k, rfl, hk2, hk3, hf3⟩ := hcut
      have hkl : k < wc.heap.size := cell_lt (hk3 0 _ rfl)
      have HK := Lib.hid hk3
      have HF3 := Lib.hid hf3
      obtain ⟨f0, f1, f2, f3⟩ := frm_cells hf3
      have hfl := hf3.lt
      clear hk3 hf3
      have hth := there_alloc_new wc #[.int .i64 0, .int .i64 0, .int .i64 0, .int .i64 0, .int .i64 0, .int .u32 0] 27 6 (by decide)
      have hfa := HF3.out.ext (below_last (Below.refl _ _) (.cells #[.int .i64 0, .int .i64 0, .int .i64 0, .int .i64 0, .int .i64 0, .int .u32 0] 27))
      have hka := range_alloc (.cells #[.int .i64 0, .int .i64 0, .int .i64 0, .int .i64 0, .int .i64 0, .int .u32 0] 27) HK.out hkl
      have HHR := Lib.hid (rhasrm_any ⟨g.how.toArray⟩ hsz)
      have HOX := Lib.hid (show (wc.alloc (.cells #[.int .i64 0, .int .i64 0, .int .i64 0, .int .i64 0, .int .i64 0, .int .u32 0] 27)).rangeAt wc.heap.size 0 (opL' zeroO) from range_block (heap_top0 wc (.cells #[.int .i64 0, .int .i64 0, .int .i64 0, .int .i64 0, .int .i64 0, .int .u32 0] 27) _ rfl))
      have HKX := Lib.hid hka
      have HFX := Lib.hid hfa
      clear hth hfa hka
      go_wp2_with fail
      refine (HHR.out _).mono ?_
      rintro e w2 ⟨rfl, rfl⟩
      rw [show hasF (⟨g.how.toArray⟩ : ByteArray).data.toList = false from hhas]
      clear hhas
      go_wp2_with (first
        | (refine wpList_load_mid rfl 32 (.tmp 13) rfl k 0 rfl (insL (i0 g true)) _ HKX.out Tryd.underlying32 rfl info_ins ?_)
        | (refine wpList_load_mid rfl 43 (.tmp 6) rfl (w.heap.size + 1) 0 rfl (frmL g) _ HFX.out.frm Tryd.underlying43 rfl info_frm ?_)
        | (refine wpList_load_mid rfl 27 (.tmp 14) rfl wc.heap.size 0 rfl (opL' zeroO) _ HOX.out Tryd.underlying27 rfl info_opd1 ?_))
      refine (HMD.out _ HFX.out.below).mono ?_
      rintro e w3 ⟨rfl, hb3⟩
      have HB3 := Lib.hid (HFX.out.below.trans (hb3.mono HFX.out.below.size))
      have HR3 := Lib.hid (HFX.out.ext hb3).res
      clear hb3
      go_wp2_with (refine store_ins rfl (.tmp 2) (.tmp 147) rfl w.heap.size rfl m.1 rfl HR3.out ?_; intro Y hY hl; have HY := Lib.hid hY; have HL := Lib.hid hl; clear hY hl)
      refine bodyPost_ret (results_cell_tmp rfl rfl rfl HL.out) rfl ⟨by rfl, ?_⟩
      rw [HY.out]
      exact below_setCells (Nat.le_refl _) _ _ _ HB3.out
end Go.Proofs.YtgihiddiceinhaaDoor
