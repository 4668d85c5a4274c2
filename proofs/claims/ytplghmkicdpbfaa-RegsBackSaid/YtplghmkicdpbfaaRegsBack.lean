/- Whatever the state, the registers and the number, RegsBack answers true, and its input reads as it did: what is set is got, and all other bytes stay. -/
import Derived.Test.YtplghmkicdpbfaaKnown13
import Derived.Test.YtplghmkicdpbfaaFlagsBack
import Derived.Test.YtplghmkicdpbfaaLies
import Derived.Test.YtplghmkicdpbfaaShut
namespace Go.Proofs.Ytplghmkicdpbfaa
open Go.ChangeShapes Go.WideShapes Go.ChangeAt Go.RowKit

theorem back_low (s : Sta) (j : Nat) (hj : j < 8) (v : Int) : ∃ R, setF s (⟨2, (j : Int), 0, 0, 0, 0⟩ : Opd) v = { s with r := R } := by
  have h : (0 : Int) ≤ (j : Int) ∧ (j : Int) ≤ 7 := by omega
  refine ⟨putN s.r ((j : Int) % 4).toNat (byteF (s.r ((j : Int) % 4).toNat) v (decide (4 ≤ (j : Int)))), ?_⟩
  unfold setF
  dsimp only
  rw [if_pos h, if_neg (by decide), if_pos rfl]
theorem back_get (s : Sta) (j : Nat) (hj : j < 8) (v : Int) : getG (setF s (⟨2, (j : Int), 0, 0, 0, 0⟩ : Opd) v) (⟨2, (j : Int), 0, 0, 0, 0⟩ : Opd) = v % 256 := by
  rcases (show j = 0 ∨ j = 1 ∨ j = 2 ∨ j = 3 ∨ j = 4 ∨ j = 5 ∨ j = 6 ∨ j = 7 by omega) with rfl | rfl | rfl | rfl | rfl | rfl | rfl | rfl <;> simp [getG, getF, setF, putN, byteF] <;> omega
theorem back_other (s : Sta) (j k : Nat) (hj : j < 8) (hk : k < 8) (hne : j ≠ k) (v : Int) (hs : StaOk s) : getG (setF s (⟨2, (j : Int), 0, 0, 0, 0⟩ : Opd) v) (⟨2, (k : Int), 0, 0, 0, 0⟩ : Opd) = getG s (⟨2, (k : Int), 0, 0, 0, 0⟩ : Opd) := by
  have h0 := hs.r 0 (by decide)
  have h1 := hs.r 1 (by decide)
  have h2 := hs.r 2 (by decide)
  have h3 := hs.r 3 (by decide)
  rcases (show j = 0 ∨ j = 1 ∨ j = 2 ∨ j = 3 ∨ j = 4 ∨ j = 5 ∨ j = 6 ∨ j = 7 by omega) with rfl | rfl | rfl | rfl | rfl | rfl | rfl | rfl <;> rcases (show k = 0 ∨ k = 1 ∨ k = 2 ∨ k = 3 ∨ k = 4 ∨ k = 5 ∨ k = 6 ∨ k = 7 by omega) with rfl | rfl | rfl | rfl | rfl | rfl | rfl | rfl <;> first | exact absurd rfl hne | (simp [getG, getF, setF, putN, byteF]; done) | (simp [getG, getF, setF, putN, byteF]; omega)
theorem back_dbl (s : Sta) (j : Nat) (hj : j < 8) (v : Int) : getG (setF s (⟨5, (j : Int), 0, 0, 0, 0⟩ : Opd) v) (⟨5, (j : Int), 0, 0, 0, 0⟩ : Opd) = v ∧ (setF s (⟨5, (j : Int), 0, 0, 0, 0⟩ : Opd) v).r = s.r := by
  have h : (0 : Int) ≤ (j : Int) ∧ (j : Int) ≤ 7 := by omega
  have h' : (j : Int) ≤ 7 := by omega
  constructor <;> simp [getG, getF, setF, putN, h']
theorem back_reg (s : Sta) (j : Nat) (hj : j < 8) (v : Int) : getG (setF s (⟨1, (j : Int), 0, 0, 0, 0⟩ : Opd) v) (⟨1, (j : Int), 0, 0, 0, 0⟩ : Opd) = v % 4294967296 := by
  have h' : (j : Int) ≤ 7 := by omega
  simp [getG, getF, setF, putN, h']
theorem and32L (v : Int) (h0 : 0 ≤ v) (h1 : v < 18446744073709551616) : bits .and .u64 v 4294967295 = v % 4294967296 := by
  rw [u64_and v 4294967295 h0 h1 (by decide) (by decide)]
  have h : v.toNat &&& (4294967295 : Int).toNat = v.toNat % 4294967296 := Nat.and_two_pow_sub_one_eq_mod v.toNat 32
  rw [h]
  omega
theorem row4_key : Try.prog.keyTypeAt 4 23 = true := by kernel_rfl
theorem row8_key : Try.prog.keyTypeAt 4 27 = true := by kernel_rfl

theorem row4_form (f : Nat → Int) : (Value.agg (rowL_u32 f).toArray).formed Try.prog 23 = true := by kernel_rfl
set_option maxRecDepth 10000 in
theorem row4_lits (f : Nat → Int) (h : ∀ i, i < 8 → (.int .u32 (f i) : Lit).wf = true) : Try.prog.keyLits 4 23 (Value.agg (rowL_u32 f).toArray).cells.toList = some [.int .u32 (f 0), .int .u32 (f 1), .int .u32 (f 2), .int .u32 (f 3), .int .u32 (f 4), .int .u32 (f 5), .int .u32 (f 6), .int .u32 (f 7)] := by
  have h0 := h 0 (by decide)
  have h1 := h 1 (by decide)
  have h2 := h 2 (by decide)
  have h3 := h 3 (by decide)
  have h4 := h 4 (by decide)
  have h5 := h 5 (by decide)
  have h6 := h 6 (by decide)
  have h7 := h 7 (by decide)
  simp [rowL_u32, Program.keyLits, Value.cells, List.range, List.range.loop, Try.underlying23, Try.underlying22, cell_u4, cell_a4, h0, h1, h2, h3, h4, h5, h6, h7]
theorem row4_same (f : Nat → Int) (h : ∀ i, i < 8 → (.int .u32 (f i) : Lit).wf = true) (w : World) : ((Op.equalIn 10000 23 (.agg (rowL_u32 f).toArray) (.agg (rowL_u32 f).toArray)).run Try.prog w) = .ok true w := by
  obtain ⟨r, hr, hi⟩ := eq_deep row4_key (row4_form f) (row4_form f) (row4_lits f h) (row4_lits f h) w
  have : r = true := hi.2 rfl
  subst this
  exact hr
theorem row4_guard : Try.prog.eqGuardType Try.prog.depth 23 = false := by kernel_rfl

theorem row8_form (f : Nat → Int) : (Value.agg (rowL_u64 f).toArray).formed Try.prog 27 = true := by kernel_rfl
set_option maxRecDepth 10000 in
theorem row8_lits (f : Nat → Int) (h : ∀ i, i < 8 → (.int .u64 (f i) : Lit).wf = true) : Try.prog.keyLits 4 27 (Value.agg (rowL_u64 f).toArray).cells.toList = some [.int .u64 (f 0), .int .u64 (f 1), .int .u64 (f 2), .int .u64 (f 3), .int .u64 (f 4), .int .u64 (f 5), .int .u64 (f 6), .int .u64 (f 7)] := by
  have h0 := h 0 (by decide)
  have h1 := h 1 (by decide)
  have h2 := h 2 (by decide)
  have h3 := h 3 (by decide)
  have h4 := h 4 (by decide)
  have h5 := h 5 (by decide)
  have h6 := h 6 (by decide)
  have h7 := h 7 (by decide)
  simp [rowL_u64, Program.keyLits, Value.cells, List.range, List.range.loop, Try.underlying27, Try.underlying26, cell_u8, cell_a8, h0, h1, h2, h3, h4, h5, h6, h7]
theorem row8_same (f : Nat → Int) (h : ∀ i, i < 8 → (.int .u64 (f i) : Lit).wf = true) (w : World) : ((Op.equalIn 10000 27 (.agg (rowL_u64 f).toArray) (.agg (rowL_u64 f).toArray)).run Try.prog w) = .ok true w := by
  obtain ⟨r, hr, hi⟩ := eq_deep row8_key (row8_form f) (row8_form f) (row8_lits f h) (row8_lits f h) w
  have : r = true := hi.2 rfl
  subst this
  exact hr
theorem row8_guard : Try.prog.eqGuardType Try.prog.depth 27 = false := by kernel_rfl

theorem quietC_ne_row8 {C : World → Prop} {K : Act → Prop} {a : Act} {D : Option Tmp} {ty : TypeId} {pos : String} {af : Array Edge} {g : Option (Nat × Bool)} (x y : Operand) (f : Nat → Int) (hf : ∀ i, i < 8 → (.int .u64 (f i) : Lit).wf = true) (hx : a.eval x = .agg (rowL_u64 f).toArray) (hy : a.eval y = .agg (rowL_u64 f).toArray) (hK : (Oper.mk D (.move (.const (.bool false))) ty pos af g).quiet Try.prog a C K) : (Oper.mk D (.binOp .neq 27 x y 27) ty pos af g).quiet Try.prog a C K :=
  quietC_val _ (.bool false) (fun u _ => by
    have hg : (eqGuard .neq 27 x y (.agg (rowL_u64 f).toArray) (.agg (rowL_u64 f).toArray)).run Try.prog u = .ok () u := run_eqGuard_agg u .neq 27 x y _ _ row8_guard
    have he : (binOp .neq 27 (.agg (rowL_u64 f).toArray) (.agg (rowL_u64 f).toArray)).run Try.prog u = .ok (.bool false) u := by
      rw [run_neq_struct, row8_same f hf u]
      rfl
    unfold execOp
    simp only [Sem.run_bind, hx, hy, hg, he, Result.andThen_ok, Sem.run_pure]) hK

theorem quietC_eq_row4 {C : World → Prop} {K : Act → Prop} {a : Act} {D : Option Tmp} {ty : TypeId} {pos : String} {af : Array Edge} {g : Option (Nat × Bool)} (x y : Operand) (f : Nat → Int) (hf : ∀ i, i < 8 → (.int .u32 (f i) : Lit).wf = true) (hx : a.eval x = .agg (rowL_u32 f).toArray) (hy : a.eval y = .agg (rowL_u32 f).toArray) (hK : (Oper.mk D (.move (.const (.bool true))) ty pos af g).quiet Try.prog a C K) : (Oper.mk D (.binOp .eql 23 x y 23) ty pos af g).quiet Try.prog a C K :=
  quietC_val _ (.bool true) (fun u _ => by
    have hg : (eqGuard .eql 23 x y (.agg (rowL_u32 f).toArray) (.agg (rowL_u32 f).toArray)).run Try.prog u = .ok () u := run_eqGuard_agg u .eql 23 x y _ _ row4_guard
    have he : (binOp .eql 23 (.agg (rowL_u32 f).toArray) (.agg (rowL_u32 f).toArray)).run Try.prog u = .ok (.bool true) u := by
      rw [run_eql_struct, row4_same f hf u]
      rfl
    unfold execOp
    simp only [Sem.run_bind, hx, hy, hg, he, Result.andThen_ok, Sem.run_pure]) hK

theorem fl_differ (w : World) (c p z s o d : Bool) : (binOp .neq 25 (flV c p z s o d) (flV c p z s o d)).run Try.prog w = .ok (.bool false) w := by
  obtain ⟨r, hr, hi⟩ := eq_deep fl_key (fl_form c p z s o d) (fl_form c p z s o d) (fl_lits c p z s o d) (fl_lits c p z s o d) w
  have : r = true := hi.2 rfl
  subst this
  unfold flV at hr ⊢
  rw [run_neq_struct, hr]
  rfl
theorem quietC_ne_fl {C : World → Prop} {K : Act → Prop} {a : Act} {D : Option Tmp} {ty : TypeId} {pos : String} {af : Array Edge} {g : Option (Nat × Bool)} (x y : Operand) (c p z s o d : Bool) (hx : a.eval x = flV c p z s o d) (hy : a.eval y = flV c p z s o d) (hK : (Oper.mk D (.move (.const (.bool false))) ty pos af g).quiet Try.prog a C K) : (Oper.mk D (.binOp .neq 25 x y 25) ty pos af g).quiet Try.prog a C K :=
  quietC_val _ (.bool false) (fun u _ => by
    have hg : (eqGuard .neq 25 x y (flV c p z s o d) (flV c p z s o d)).run Try.prog u = .ok () u := run_eqGuard_agg u .neq 25 x y _ _ fl_guard1
    have he := fl_differ u c p z s o d
    unfold execOp
    simp only [Sem.run_bind, hx, hy, hg, he, Result.andThen_ok, Sem.run_pure]) hK

set_option maxRecDepth 100000 in
set_option maxHeartbeats 8000000 in
theorem regsback_walk (s : Sta) (a b v : Int) (w : World) (hs : StaOk s) (a0 : 0 ≤ a) (a1 : a < 256) (b0 : 0 ≤ b) (b1 : b < 256) (v0 : 0 ≤ v) (v1 : v < 18446744073709551616) :
    Calls Try.prog 3 #[staV s, .int .u8 a, .int .u8 b, .int .u64 v] w fun e w' => e = .returned (.bool true) ∧ Below w.heap.size w w' := by
  have HW := Lib.hid (ok_wf hs)
  obtain ⟨j, hj⟩ : ∃ j : Nat, a % 8 = j := ⟨(a % 8).toNat, by omega⟩
  obtain ⟨k, hk⟩ : ∃ k : Nat, b % 8 = k := ⟨(b % 8).toNat, by omega⟩
  have j8 : j < 8 := by omega
  have k8 : k < 8 := by omega
  obtain ⟨R, hR⟩ := back_low s j j8 v
  have tok := set_ok hs (⟨2, (j : Int), 0, 0, 0, 0⟩ : Opd) v v0 v1
  have p1 := back_get s j j8 v
  have HOK := Lib.hid (fun h : j ≠ k => back_other s j k j8 k8 h v hs)
  have p5 := back_dbl s j j8 v
  have p1e := back_reg s j j8 v
  have q1 := fun u => set_any s (⟨2, (j : Int), 0, 0, 0, 0⟩ : Opd) v hs v0 v1 u
  have q2 := fun u => get_any (setF s (⟨2, (j : Int), 0, 0, 0, 0⟩ : Opd) v) (⟨2, (j : Int), 0, 0, 0, 0⟩ : Opd) tok (Int.le_refl _) (by show (0 : Int) < _; decide) u
  have q3 := fun u => get_any (setF s (⟨2, (j : Int), 0, 0, 0, 0⟩ : Opd) v) (⟨2, (k : Int), 0, 0, 0, 0⟩ : Opd) tok (Int.le_refl _) (by show (0 : Int) < _; decide) u
  have q4 := fun u => get_any s (⟨2, (k : Int), 0, 0, 0, 0⟩ : Opd) hs (Int.le_refl _) (by show (0 : Int) < _; decide) u
  have q5 := fun u => set_any s (⟨5, (j : Int), 0, 0, 0, 0⟩ : Opd) v hs v0 v1 u
  have q6 := fun u => get_any (setF s (⟨5, (j : Int), 0, 0, 0, 0⟩ : Opd) v) (⟨5, (j : Int), 0, 0, 0, 0⟩ : Opd) (set_ok hs (⟨5, (j : Int), 0, 0, 0, 0⟩ : Opd) v v0 v1) (Int.le_refl _) (by show (0 : Int) < _; decide) u
  have q7 := fun u => set_any s (⟨1, (j : Int), 0, 0, 0, 0⟩ : Opd) v hs v0 v1 u
  have q8 := fun u => get_any (setF s (⟨1, (j : Int), 0, 0, 0, 0⟩ : Opd) v) (⟨1, (j : Int), 0, 0, 0, 0⟩ : Opd) (set_ok hs (⟨1, (j : Int), 0, 0, 0, 0⟩ : Opd) v v0 v1) (Int.le_refl _) (by show (0 : Int) < _; decide) u
  rw [p1] at q2
  rw [p5.1] at q6
  rw [p1e] at q8
  rw [hR] at q1 q2 q3 HOK
  obtain ⟨TD, hTD⟩ : ∃ T, setF s (⟨5, (j : Int), 0, 0, 0, 0⟩ : Opd) v = T := ⟨_, rfl⟩
  obtain ⟨TE, hTE⟩ : ∃ T, setF s (⟨1, (j : Int), 0, 0, 0, 0⟩ : Opd) v = T := ⟨_, rfl⟩
  rw [hTD] at q5 q6 p5
  rw [hTE] at q7 q8
  obtain ⟨G, hG⟩ : ∃ G, getG s (⟨2, (k : Int), 0, 0, 0, 0⟩ : Opd) = G := ⟨_, rfl⟩
  rw [hG] at q4 HOK
  obtain ⟨G3, hG3⟩ : ∃ G, getG ({ s with r := R } : Sta) (⟨2, (k : Int), 0, 0, 0, 0⟩ : Opd) = G := ⟨_, rfl⟩
  rw [hG3] at q3 HOK
  obtain ⟨V, hV⟩ : ∃ V, v % 256 = V := ⟨_, rfl⟩
  have n1 := and255L v v0 v1
  have n2 := and32L v v0 v1
  rw [hV] at q2 n1
  obtain ⟨V4, hV4⟩ : ∃ V, v % 4294967296 = V := ⟨_, rfl⟩
  rw [hV4] at q8 n2
  have x0' : 0 ≤ V := by omega
  have x1' : V < 18446744073709551616 := by omega
  have y0' : 0 ≤ V4 := by omega
  have y1' : V4 < 18446744073709551616 := by omega
  have HDR := Lib.hid p5.2
  rw [show opV (⟨2, (j : Int), 0, 0, 0, 0⟩ : Opd) = .agg #[.int .i64 2, .int .i64 (j : Int), .int .i64 0, .int .i64 0, .int .i64 0, .int .u32 0] from rfl, show staV s = .agg (staL s).toArray from rfl, show staV ({ s with r := R } : Sta) = .agg (staL ({ s with r := R } : Sta)).toArray from rfl] at q1
  rw [show opV (⟨2, (j : Int), 0, 0, 0, 0⟩ : Opd) = .agg #[.int .i64 2, .int .i64 (j : Int), .int .i64 0, .int .i64 0, .int .i64 0, .int .u32 0] from rfl, show staV ({ s with r := R } : Sta) = .agg (staL ({ s with r := R } : Sta)).toArray from rfl] at q2
  rw [show opV (⟨2, (k : Int), 0, 0, 0, 0⟩ : Opd) = .agg #[.int .i64 2, .int .i64 (k : Int), .int .i64 0, .int .i64 0, .int .i64 0, .int .u32 0] from rfl, show staV ({ s with r := R } : Sta) = .agg (staL ({ s with r := R } : Sta)).toArray from rfl] at q3
  rw [show opV (⟨2, (k : Int), 0, 0, 0, 0⟩ : Opd) = .agg #[.int .i64 2, .int .i64 (k : Int), .int .i64 0, .int .i64 0, .int .i64 0, .int .u32 0] from rfl, show staV s = .agg (staL s).toArray from rfl] at q4
  rw [show opV (⟨5, (j : Int), 0, 0, 0, 0⟩ : Opd) = .agg #[.int .i64 5, .int .i64 (j : Int), .int .i64 0, .int .i64 0, .int .i64 0, .int .u32 0] from rfl, show staV s = .agg (staL s).toArray from rfl, show staV TD = .agg (staL TD).toArray from rfl] at q5
  rw [show opV (⟨5, (j : Int), 0, 0, 0, 0⟩ : Opd) = .agg #[.int .i64 5, .int .i64 (j : Int), .int .i64 0, .int .i64 0, .int .i64 0, .int .u32 0] from rfl, show staV TD = .agg (staL TD).toArray from rfl] at q6
  rw [show opV (⟨1, (j : Int), 0, 0, 0, 0⟩ : Opd) = .agg #[.int .i64 1, .int .i64 (j : Int), .int .i64 0, .int .i64 0, .int .i64 0, .int .u32 0] from rfl, show staV s = .agg (staL s).toArray from rfl, show staV TE = .agg (staL TE).toArray from rfl] at q7
  rw [show opV (⟨1, (j : Int), 0, 0, 0, 0⟩ : Opd) = .agg #[.int .i64 1, .int .i64 (j : Int), .int .i64 0, .int .i64 0, .int .i64 0, .int .u32 0] from rfl, show staV TE = .agg (staL TE).toArray from rfl] at q8
  have H1 := Lib.hid q1
  have H2 := Lib.hid q2
  have H3 := Lib.hid q3
  have H4 := Lib.hid q4
  have H5 := Lib.hid q5
  have H6 := Lib.hid q6
  have H7 := Lib.hid q7
  have H8 := Lib.hid q8
  have HIP := Lib.hid hs.ip
  clear q1 q2 q3 q4 q5 q6 q7 q8 hs hR tok p1 p5 p1e hTD hTE hG hG3 hV hV4
  unfold staV
  go_enter Try.func3, Try.ntmps3
  go_wp2_with fail
  refine (known13_any _).mono ?_
  rintro e w1 ⟨rfl, b1'⟩
  have HL := Lib.hid (((Lies.none (Below.refl w.heap.size w)).lit (staL s).toArray 29 _ rfl).on b1')
  clear b1'
  obtain ⟨x0, hx0⟩ : ∃ x, w1.heap.size = x := ⟨_, rfl⟩
  go_upto_region 4 with fail
  obtain ⟨W1, hW1⟩ : ∃ W, W = (w1.alloc (.cells #[.int .i64 2, .int .i64 (j : Int), .int .i64 0, .int .i64 0, .int .i64 0, .int .u32 0] 32)).alloc (.cells #[.int .i64 2, .int .i64 (k : Int), .int .i64 0, .int .i64 0, .int .i64 0, .int .u32 0] 32) := ⟨_, rfl⟩
  rw [← hW1]
  have HL := Lib.hid (show Lies w [(x0 + 1, [.int .i64 2, .int .i64 (k : Int), .int .i64 0, .int .i64 0, .int .i64 0, .int .u32 0]), (x0, [.int .i64 2, .int .i64 (j : Int), .int .i64 0, .int .i64 0, .int .i64 0, .int .u32 0]), (w.heap.size, staL s)] W1 by rw [hW1]; exact (HL.out.lit #[.int .i64 2, .int .i64 (j : Int), .int .i64 0, .int .i64 0, .int .i64 0, .int .u32 0] 32 x0 hx0.symm).lit #[.int .i64 2, .int .i64 (k : Int), .int .i64 0, .int .i64 0, .int .i64 0, .int .u32 0] 32 (x0 + 1) (by rw [← hx0]; simp))
  clear hW1 hx0
  go_wp2_with (first
    | (refine wpList_load_mid rfl 29 (.tmp 4) rfl w.heap.size 0 rfl (staL s) _ (HL.out.at_ _ _ (by simp)) Try.underlying29 rfl info_sta ?_)
    | (refine wpList_load_mid rfl 32 (.tmp 9) rfl x0 0 rfl ([.int .i64 2, .int .i64 (j : Int), .int .i64 0, .int .i64 0, .int .i64 0, .int .u32 0]) _ (HL.out.at_ _ _ (by simp)) Try.underlying32 rfl info_opd1 ?_))
  ((with_reducible refine (H1.out _).mono ?_); rintro e w2 ⟨rfl, b2'⟩)
  have HL := Lib.hid (HL.out.on b2')
  clear b2'
  have HTH := Lib.hid (there_alloc_new w2 #[.int .u32 0, .int .u32 0, .int .u32 0, .int .u32 0, .int .u32 0, .int .u32 0, .int .u32 0, .int .u32 0, .int .u32 0, .bool false, .bool false, .bool false, .bool false, .bool false, .bool false, .int .u64 0, .int .u64 0, .int .u64 0, .int .u64 0, .int .u64 0, .int .u64 0, .int .u64 0, .int .u64 0] 29 23 (by decide))
  have HPUT := Lib.hid (fun Y hY => HL.out.put #[.int .u32 0, .int .u32 0, .int .u32 0, .int .u32 0, .int .u32 0, .int .u32 0, .int .u32 0, .int .u32 0, .int .u32 0, .bool false, .bool false, .bool false, .bool false, .bool false, .bool false, .int .u64 0, .int .u64 0, .int .u64 0, .int .u64 0, .int .u64 0, .int .u64 0, .int .u64 0, .int .u64 0] 29 (staL ({ s with r := R } : Sta)) (Nat.le_refl 23) w2.heap.size rfl Y hY)
  go_upto_region 5 with (refine store_row rfl 29 (.tmp 11) (.tmp 27) rfl w2.heap.size rfl (staL ({ s with r := R } : Sta)) rfl _ Try.underlying29 rfl info_sta (sta_one ({ s with r := R } : Sta)) HTH.out ?_; intro Y hY hl; clear hl; have HL := Lib.hid (HPUT.out Y hY); clear hY)
  obtain ⟨C, hC⟩ : ∃ C : World → Prop, C = Lies w [(w2.heap.size, staL ({ s with r := R } : Sta)), (x0 + 1, [.int .i64 2, .int .i64 (k : Int), .int .i64 0, .int .i64 0, .int .i64 0, .int .u32 0]), (x0, [.int .i64 2, .int .i64 (j : Int), .int .i64 0, .int .i64 0, .int .i64 0, .int .u32 0]), (w.heap.size, staL s)] := ⟨_, rfl⟩
  have HCs := Lib.hid (show ∀ u, C u → u.rangeAt w.heap.size 0 (staL s) from fun u hu => by rw [hC] at hu; exact hu.at_ _ _ (by simp))
  have HCx := Lib.hid (show ∀ u, C u → u.rangeAt x0 0 [.int .i64 2, .int .i64 (j : Int), .int .i64 0, .int .i64 0, .int .i64 0, .int .u32 0] from fun u hu => by rw [hC] at hu; exact hu.at_ _ _ (by simp))
  have HCy := Lib.hid (show ∀ u, C u → u.rangeAt (x0 + 1) 0 [.int .i64 2, .int .i64 (k : Int), .int .i64 0, .int .i64 0, .int .i64 0, .int .u32 0] from fun u hu => by rw [hC] at hu; exact hu.at_ _ _ (by simp))
  have HCt := Lib.hid (show ∀ u, C u → u.rangeAt w2.heap.size 0 (staL ({ s with r := R } : Sta)) from fun u hu => by rw [hC] at hu; exact hu.at_ _ _ (by simp))
  have HCo := Lib.hid (show ∀ u u', C u → Below u.heap.size u u' → C u' from fun u u' hu hb => by rw [hC] at hu ⊢; exact hu.on hb)
  have HCl := Lib.hid (show ∀ u, C u → Lies w [(w2.heap.size, staL ({ s with r := R } : Sta)), (x0, [.int .i64 2, .int .i64 (j : Int), .int .i64 0, .int .i64 0, .int .i64 0, .int .u32 0]), (w.heap.size, staL s)] u from fun u hu => by rw [hC] at hu; exact ⟨hu.below, fun p hp => hu.all p (by simp only [List.mem_cons, List.not_mem_nil, or_false] at hp ⊢; rcases hp with h | h | h <;> simp [h])⟩)
  have hC0 : C { Y with drawn := Y.drawn + 1 } := by rw [hC]; exact HL.out.drew
  have hne := class_const hC0
  clear hC
  rw [show ∀ (a : Act), a.put none undef = a from fun _ => rfl]
  by_cases hjk : j = k
  · subst hjk
    refine wp_region_quietC C (by kernel_rfl) (by kernel_rfl) hC0 ?_
    clear hC0
    go_big_quiet_want; refine quietC_load 29 (.tmp 11) w2.heap.size 0 rfl (staL ({ s with r := R } : Sta)) _ HCt.out Try.underlying29 rfl info_sta ?_; go_big_quiet_op; go_big_quiet_on
    go_big_quiet_want; refine quietC_load 32 (.tmp 9) x0 0 rfl ([.int .i64 2, .int .i64 (j : Int), .int .i64 0, .int .i64 0, .int .i64 0, .int .u32 0]) _ HCx.out Try.underlying32 rfl info_opd1 ?_; go_big_quiet_op; go_big_quiet_on
    go_big_quiet_want; refine quietC_call 8 #[.tmp 28, .tmp 29] _ #[.agg (staL ({ s with r := R } : Sta)).toArray, .agg #[.int .i64 2, .int .i64 (j : Int), .int .i64 0, .int .i64 0, .int .i64 0, .int .u32 0]] (.int .u64 V) (fun u _ => by simp [Act.eval, go_sem]) (fun u hu => (H2.out u).mono fun _ _ ⟨h1, h2⟩ => ⟨h1, HCo.out u _ hu h2⟩) ?_; go_big_quiet_op; go_big_quiet_on
    go_big_quiet_want; go_big_quiet_op; go_big_quiet_on
    go_big_quiet_want; go_big_quiet_op; go_big_quiet_on
    go_big_quiet_want; go_big_quiet_op; go_big_quiet_on
    go_big_quiet_want; go_big_quiet_op; go_big_quiet_on
    go_big_quiet_want; go_big_quiet_op; go_big_quiet_on
    go_big_quiet_want; go_big_quiet_op; go_big_quiet_on
    go_big_quiet_want; go_big_quiet_op; go_big_quiet_on
    go_big_quiet_want; go_big_quiet_op; go_big_quiet_on
    go_big_quiet_want; go_big_quiet_op; go_big_quiet_on
    go_big_quiet_want; go_big_quiet_op; go_big_quiet_on
    go_big_quiet_skip
    go_big_quiet_skip
    go_big_quiet_skip
    go_big_quiet_skip
    go_big_quiet_skip
    go_big_quiet_skip
    go_big_quiet_skip
    go_big_quiet_want; go_big_quiet_op; go_big_quiet_on
    go_big_quiet_want; go_big_quiet_op; go_big_quiet_on
    go_big_quiet_want; go_big_quiet_op; go_big_quiet_on
    go_big_quiet_want; go_big_quiet_op; go_big_quiet_on
    go_big_quiet_want; refine quietC_load 27 (.tmp 51) w2.heap.size 15 rfl (rowL_u64 s.x) _ (fun u hu => range_part (HCt.out u hu) 15 (rowL_u64 s.x) rfl) Try.underlying27 rfl info_row_u64 ?_; go_big_quiet_op; go_big_quiet_on
    go_big_quiet_want; go_big_quiet_op; go_big_quiet_on
    go_big_quiet_want; refine quietC_load 27 (.tmp 53) w.heap.size 15 rfl (rowL_u64 s.x) _ (fun u hu => range_part (HCs.out u hu) 15 (rowL_u64 s.x) rfl) Try.underlying27 rfl info_row_u64 ?_; go_big_quiet_op; go_big_quiet_on
    go_big_quiet_want; refine quietC_ne_row8 (.tmp 52) (.tmp 54) s.x HW.out.x rfl rfl ?_; go_big_quiet_op; go_big_quiet_on
    go_big_quiet_want; go_big_quiet_op; go_big_quiet_on
    go_big_quiet_want; go_big_quiet_op; go_big_quiet_on
    go_big_quiet_want; go_big_quiet_op; go_big_quiet_on
    go_big_quiet_want; refine quietC_load 25 (.tmp 58) w2.heap.size 9 rfl ([.bool s.c, .bool s.p, .bool s.z, .bool s.s, .bool s.o, .bool s.d]) _ (fun u hu => range_part (HCt.out u hu) 9 ([.bool s.c, .bool s.p, .bool s.z, .bool s.s, .bool s.o, .bool s.d]) rfl) Try.underlying25 rfl info_fl ?_; go_big_quiet_op; go_big_quiet_on
    go_big_quiet_want; go_big_quiet_op; go_big_quiet_on
    go_big_quiet_want; refine quietC_load 25 (.tmp 60) w.heap.size 9 rfl ([.bool s.c, .bool s.p, .bool s.z, .bool s.s, .bool s.o, .bool s.d]) _ (fun u hu => range_part (HCs.out u hu) 9 ([.bool s.c, .bool s.p, .bool s.z, .bool s.s, .bool s.o, .bool s.d]) rfl) Try.underlying25 rfl info_fl ?_; go_big_quiet_op; go_big_quiet_on
    go_big_quiet_want; refine quietC_ne_fl (.tmp 59) (.tmp 61) s.c s.p s.z s.s s.o s.d rfl rfl ?_; go_big_quiet_op; go_big_quiet_on
    go_big_quiet_want; go_big_quiet_op; go_big_quiet_on
    go_big_quiet_want; go_big_quiet_op; go_big_quiet_on
    go_big_quiet_want; go_big_quiet_op; go_big_quiet_on
    go_big_quiet_want; refine quietC_read 22 (.tmp 65) (.int .u32 s.ip) (fun u hu => by have := HCt.out u hu 8 _ rfl; simp [Act.eval, go_sem, this]) ?_; go_big_quiet_op; go_big_quiet_on
    go_big_quiet_want; go_big_quiet_op; go_big_quiet_on
    go_big_quiet_want; refine quietC_read 22 (.tmp 67) (.int .u32 s.ip) (fun u hu => by have := HCs.out u hu 8 _ rfl; simp [Act.eval, go_sem, this]) ?_; go_big_quiet_op; go_big_quiet_on
    go_big_quiet_want; go_big_quiet_op; go_big_quiet_on
    go_big_quiet_want; go_big_quiet_op; go_big_quiet_on
    refine wpQuiet_nil ?_
    intro w5 hw5
    have HL := Lib.hid (HCl.out w5 hw5)
    clear hw5 hne
    obtain ⟨d0, hd0⟩ : ∃ x, w5.heap.size = x := ⟨_, rfl⟩
    go_upto_region 9 with fail
    obtain ⟨W2, hW2⟩ : ∃ W, W = (w5.alloc (.cells #[.int .i64 5, .int .i64 (j : Int), .int .i64 0, .int .i64 0, .int .i64 0, .int .u32 0] 32)).alloc (.cells #[.int .i64 1, .int .i64 (j : Int), .int .i64 0, .int .i64 0, .int .i64 0, .int .u32 0] 32) := ⟨_, rfl⟩
    rw [← hW2]
    have HL := Lib.hid (show Lies w [(d0 + 1, [.int .i64 1, .int .i64 (j : Int), .int .i64 0, .int .i64 0, .int .i64 0, .int .u32 0]), (d0, [.int .i64 5, .int .i64 (j : Int), .int .i64 0, .int .i64 0, .int .i64 0, .int .u32 0]), (w2.heap.size, staL ({ s with r := R } : Sta)), (x0, [.int .i64 2, .int .i64 (j : Int), .int .i64 0, .int .i64 0, .int .i64 0, .int .u32 0]), (w.heap.size, staL s)] W2 by rw [hW2]; exact (HL.out.lit #[.int .i64 5, .int .i64 (j : Int), .int .i64 0, .int .i64 0, .int .i64 0, .int .u32 0] 32 d0 hd0.symm).lit #[.int .i64 1, .int .i64 (j : Int), .int .i64 0, .int .i64 0, .int .i64 0, .int .u32 0] 32 (d0 + 1) (by rw [← hd0]; simp))
    clear hW2 hd0
    obtain ⟨C, hC⟩ : ∃ C : World → Prop, C = Lies w [(d0 + 1, [.int .i64 1, .int .i64 (j : Int), .int .i64 0, .int .i64 0, .int .i64 0, .int .u32 0]), (d0, [.int .i64 5, .int .i64 (j : Int), .int .i64 0, .int .i64 0, .int .i64 0, .int .u32 0]), (w2.heap.size, staL ({ s with r := R } : Sta)), (x0, [.int .i64 2, .int .i64 (j : Int), .int .i64 0, .int .i64 0, .int .i64 0, .int .u32 0]), (w.heap.size, staL s)] := ⟨_, rfl⟩
    have HCs := Lib.hid (show ∀ u, C u → u.rangeAt w.heap.size 0 (staL s) from fun u hu => by rw [hC] at hu; exact hu.at_ _ _ (by simp))
    have HCd := Lib.hid (show ∀ u, C u → u.rangeAt d0 0 [.int .i64 5, .int .i64 (j : Int), .int .i64 0, .int .i64 0, .int .i64 0, .int .u32 0] from fun u hu => by rw [hC] at hu; exact hu.at_ _ _ (by simp))
    have HCe := Lib.hid (show ∀ u, C u → u.rangeAt (d0 + 1) 0 [.int .i64 1, .int .i64 (j : Int), .int .i64 0, .int .i64 0, .int .i64 0, .int .u32 0] from fun u hu => by rw [hC] at hu; exact hu.at_ _ _ (by simp))
    have HCo := Lib.hid (show ∀ u u', C u → Below u.heap.size u u' → C u' from fun u u' hu hb => by rw [hC] at hu ⊢; exact hu.on hb)
    have HCb := Lib.hid (show ∀ u, C u → Below w.heap.size w u from fun u hu => by rw [hC] at hu; exact hu.below)
    have hC0 : C { W2 with drawn := W2.drawn + 1 } := by rw [hC]; exact HL.out.drew
    have hne := class_const hC0
    clear hC
    refine wp_region_quietC C (by kernel_rfl) (by kernel_rfl) hC0 ?_
    clear hC0
    go_big_quiet_want; refine quietC_load 29 (.tmp 4) w.heap.size 0 rfl (staL s) _ HCs.out Try.underlying29 rfl info_sta ?_; go_big_quiet_op; go_big_quiet_on
    go_big_quiet_want; refine quietC_load 32 (.tmp 12) d0 0 rfl ([.int .i64 5, .int .i64 (j : Int), .int .i64 0, .int .i64 0, .int .i64 0, .int .u32 0]) _ HCd.out Try.underlying32 rfl info_opd1 ?_; go_big_quiet_op; go_big_quiet_on
    go_big_quiet_want; go_big_quiet_op; go_big_quiet_on
    go_big_quiet_want; refine quietC_call 7 #[.tmp 79, .tmp 80, .tmp 81] _ #[.agg (staL s).toArray, .agg #[.int .i64 5, .int .i64 (j : Int), .int .i64 0, .int .i64 0, .int .i64 0, .int .u32 0], .int .u64 v] (.agg (staL TD).toArray) (fun u _ => by simp [Act.eval, go_sem]) (fun u hu => (H5.out u).mono fun _ _ ⟨h1, h2⟩ => ⟨h1, HCo.out u _ hu h2⟩) ?_; go_big_quiet_op; go_big_quiet_on
    go_big_quiet_want; refine quietC_load 32 (.tmp 12) d0 0 rfl ([.int .i64 5, .int .i64 (j : Int), .int .i64 0, .int .i64 0, .int .i64 0, .int .u32 0]) _ HCd.out Try.underlying32 rfl info_opd1 ?_; go_big_quiet_op; go_big_quiet_on
    go_big_quiet_want; refine quietC_call 8 #[.tmp 82, .tmp 83] _ #[.agg (staL TD).toArray, .agg #[.int .i64 5, .int .i64 (j : Int), .int .i64 0, .int .i64 0, .int .i64 0, .int .u32 0]] (.int .u64 v) (fun u _ => by simp [Act.eval, go_sem]) (fun u hu => (H6.out u).mono fun _ _ ⟨h1, h2⟩ => ⟨h1, HCo.out u _ hu h2⟩) ?_; go_big_quiet_op; go_big_quiet_on
    go_big_quiet_want; go_big_quiet_op; go_big_quiet_on
    go_big_quiet_want; go_big_quiet_op; go_big_quiet_on
    go_big_quiet_want; go_big_quiet_op; go_big_quiet_on
    go_big_quiet_want; refine quietC_load 29 (.tmp 4) w.heap.size 0 rfl (staL s) _ HCs.out Try.underlying29 rfl info_sta ?_; go_big_quiet_op; go_big_quiet_on
    go_big_quiet_want; refine quietC_load 32 (.tmp 13) (d0 + 1) 0 rfl ([.int .i64 1, .int .i64 (j : Int), .int .i64 0, .int .i64 0, .int .i64 0, .int .u32 0]) _ HCe.out Try.underlying32 rfl info_opd1 ?_; go_big_quiet_op; go_big_quiet_on
    go_big_quiet_want; go_big_quiet_op; go_big_quiet_on
    go_big_quiet_want; refine quietC_call 7 #[.tmp 88, .tmp 89, .tmp 90] _ #[.agg (staL s).toArray, .agg #[.int .i64 1, .int .i64 (j : Int), .int .i64 0, .int .i64 0, .int .i64 0, .int .u32 0], .int .u64 v] (.agg (staL TE).toArray) (fun u _ => by simp [Act.eval, go_sem]) (fun u hu => (H7.out u).mono fun _ _ ⟨h1, h2⟩ => ⟨h1, HCo.out u _ hu h2⟩) ?_; go_big_quiet_op; go_big_quiet_on
    go_big_quiet_want; refine quietC_load 32 (.tmp 13) (d0 + 1) 0 rfl ([.int .i64 1, .int .i64 (j : Int), .int .i64 0, .int .i64 0, .int .i64 0, .int .u32 0]) _ HCe.out Try.underlying32 rfl info_opd1 ?_; go_big_quiet_op; go_big_quiet_on
    go_big_quiet_want; refine quietC_call 8 #[.tmp 91, .tmp 92] _ #[.agg (staL TE).toArray, .agg #[.int .i64 1, .int .i64 (j : Int), .int .i64 0, .int .i64 0, .int .i64 0, .int .u32 0]] (.int .u64 V4) (fun u _ => by simp [Act.eval, go_sem]) (fun u hu => (H8.out u).mono fun _ _ ⟨h1, h2⟩ => ⟨h1, HCo.out u _ hu h2⟩) ?_; go_big_quiet_op; go_big_quiet_on
    go_big_quiet_want; go_big_quiet_op; go_big_quiet_on
    go_big_quiet_want; go_big_quiet_op; go_big_quiet_on
    go_big_quiet_want; go_big_quiet_op; go_big_quiet_on
    go_big_quiet_want; go_big_quiet_op; go_big_quiet_on
    go_big_quiet_want; go_big_quiet_op; go_big_quiet_on
    go_big_quiet_want; refine quietC_load 29 (.tmp 4) w.heap.size 0 rfl (staL s) _ HCs.out Try.underlying29 rfl info_sta ?_; go_big_quiet_op; go_big_quiet_on
    go_big_quiet_want; refine quietC_load 32 (.tmp 12) d0 0 rfl ([.int .i64 5, .int .i64 (j : Int), .int .i64 0, .int .i64 0, .int .i64 0, .int .u32 0]) _ HCd.out Try.underlying32 rfl info_opd1 ?_; go_big_quiet_op; go_big_quiet_on
    go_big_quiet_want; go_big_quiet_op; go_big_quiet_on
    go_big_quiet_want; refine quietC_call 7 #[.tmp 99, .tmp 100, .tmp 101] _ #[.agg (staL s).toArray, .agg #[.int .i64 5, .int .i64 (j : Int), .int .i64 0, .int .i64 0, .int .i64 0, .int .u32 0], .int .u64 v] (.agg (staL TD).toArray) (fun u _ => by simp [Act.eval, go_sem]) (fun u hu => (H5.out u).mono fun _ _ ⟨h1, h2⟩ => ⟨h1, HCo.out u _ hu h2⟩) ?_; go_big_quiet_op; go_big_quiet_on
    go_big_quiet_want; refine quietC_val _ (.agg (rowL_u32 s.r).toArray) (fun u _ => by rw [← HDR.out]; kernel_rfl) ?_; go_big_quiet_op; go_big_quiet_on
    go_big_quiet_want; go_big_quiet_op; go_big_quiet_on
    go_big_quiet_want; refine quietC_load 23 (.tmp 104) w.heap.size 0 rfl (rowL_u32 s.r) _ (fun u hu => range_part (HCs.out u hu) 0 (rowL_u32 s.r) rfl) Try.underlying23 rfl info_row_u32 ?_; go_big_quiet_op; go_big_quiet_on
    go_big_quiet_want; refine quietC_eq_row4 (.tmp 103) (.tmp 105) s.r HW.out.r rfl rfl ?_; go_big_quiet_op; go_big_quiet_on
    go_big_quiet_want; go_big_quiet_op; go_big_quiet_on
    go_big_quiet_want; go_big_quiet_op; go_big_quiet_on
    refine wpQuiet_nil ?_
    intro w6 hw6
    have HB := Lib.hid (HCb.out w6 hw6)
    clear hw6 hne
    go_wp2_with fail
    go_returns
    exact ⟨rfl, HB.out⟩
  · have n3 : ((j : Int) != (k : Int)) = true := by simp; omega
    have e3 := HOK.out hjk
    subst e3
    refine wp_region_quietC C (by kernel_rfl) (by kernel_rfl) hC0 ?_
    clear hC0 hjk
    go_big_quiet_want; refine quietC_load 29 (.tmp 11) w2.heap.size 0 rfl (staL ({ s with r := R } : Sta)) _ HCt.out Try.underlying29 rfl info_sta ?_; go_big_quiet_op; go_big_quiet_on
    go_big_quiet_want; refine quietC_load 32 (.tmp 9) x0 0 rfl ([.int .i64 2, .int .i64 (j : Int), .int .i64 0, .int .i64 0, .int .i64 0, .int .u32 0]) _ HCx.out Try.underlying32 rfl info_opd1 ?_; go_big_quiet_op; go_big_quiet_on
    go_big_quiet_want; refine quietC_call 8 #[.tmp 28, .tmp 29] _ #[.agg (staL ({ s with r := R } : Sta)).toArray, .agg #[.int .i64 2, .int .i64 (j : Int), .int .i64 0, .int .i64 0, .int .i64 0, .int .u32 0]] (.int .u64 V) (fun u _ => by simp [Act.eval, go_sem]) (fun u hu => (H2.out u).mono fun _ _ ⟨h1, h2⟩ => ⟨h1, HCo.out u _ hu h2⟩) ?_; go_big_quiet_op; go_big_quiet_on
    go_big_quiet_want; go_big_quiet_op; go_big_quiet_on
    go_big_quiet_want; go_big_quiet_op; go_big_quiet_on
    go_big_quiet_want; go_big_quiet_op; go_big_quiet_on
    go_big_quiet_want; go_big_quiet_op; go_big_quiet_on
    go_big_quiet_want; go_big_quiet_op; go_big_quiet_on
    go_big_quiet_want; go_big_quiet_op; go_big_quiet_on
    go_big_quiet_want; go_big_quiet_op; go_big_quiet_on
    go_big_quiet_want; go_big_quiet_op; go_big_quiet_on
    go_big_quiet_want; go_big_quiet_op; go_big_quiet_on
    go_big_quiet_want; go_big_quiet_op; go_big_quiet_on
    go_big_quiet_want; refine quietC_load 29 (.tmp 11) w2.heap.size 0 rfl (staL ({ s with r := R } : Sta)) _ HCt.out Try.underlying29 rfl info_sta ?_; go_big_quiet_op; go_big_quiet_on
    go_big_quiet_want; refine quietC_load 32 (.tmp 10) (x0 + 1) 0 rfl ([.int .i64 2, .int .i64 (k : Int), .int .i64 0, .int .i64 0, .int .i64 0, .int .u32 0]) _ HCy.out Try.underlying32 rfl info_opd1 ?_; go_big_quiet_op; go_big_quiet_on
    go_big_quiet_want; refine quietC_call 8 #[.tmp 41, .tmp 42] _ #[.agg (staL ({ s with r := R } : Sta)).toArray, .agg #[.int .i64 2, .int .i64 (k : Int), .int .i64 0, .int .i64 0, .int .i64 0, .int .u32 0]] (.int .u64 G3) (fun u _ => by simp [Act.eval, go_sem]) (fun u hu => (H3.out u).mono fun _ _ ⟨h1, h2⟩ => ⟨h1, HCo.out u _ hu h2⟩) ?_; go_big_quiet_op; go_big_quiet_on
    go_big_quiet_want; refine quietC_load 29 (.tmp 4) w.heap.size 0 rfl (staL s) _ HCs.out Try.underlying29 rfl info_sta ?_; go_big_quiet_op; go_big_quiet_on
    go_big_quiet_want; refine quietC_load 32 (.tmp 10) (x0 + 1) 0 rfl ([.int .i64 2, .int .i64 (k : Int), .int .i64 0, .int .i64 0, .int .i64 0, .int .u32 0]) _ HCy.out Try.underlying32 rfl info_opd1 ?_; go_big_quiet_op; go_big_quiet_on
    go_big_quiet_want; refine quietC_call 8 #[.tmp 44, .tmp 45] _ #[.agg (staL s).toArray, .agg #[.int .i64 2, .int .i64 (k : Int), .int .i64 0, .int .i64 0, .int .i64 0, .int .u32 0]] (.int .u64 G3) (fun u _ => by simp [Act.eval, go_sem]) (fun u hu => (H4.out u).mono fun _ _ ⟨h1, h2⟩ => ⟨h1, HCo.out u _ hu h2⟩) ?_; go_big_quiet_op; go_big_quiet_on
    go_big_quiet_want; go_big_quiet_op; go_big_quiet_on
    go_big_quiet_want; go_big_quiet_op; go_big_quiet_on
    go_big_quiet_want; go_big_quiet_op; go_big_quiet_on
    go_big_quiet_want; go_big_quiet_op; go_big_quiet_on
    go_big_quiet_want; go_big_quiet_op; go_big_quiet_on
    go_big_quiet_want; refine quietC_load 27 (.tmp 51) w2.heap.size 15 rfl (rowL_u64 s.x) _ (fun u hu => range_part (HCt.out u hu) 15 (rowL_u64 s.x) rfl) Try.underlying27 rfl info_row_u64 ?_; go_big_quiet_op; go_big_quiet_on
    go_big_quiet_want; go_big_quiet_op; go_big_quiet_on
    go_big_quiet_want; refine quietC_load 27 (.tmp 53) w.heap.size 15 rfl (rowL_u64 s.x) _ (fun u hu => range_part (HCs.out u hu) 15 (rowL_u64 s.x) rfl) Try.underlying27 rfl info_row_u64 ?_; go_big_quiet_op; go_big_quiet_on
    go_big_quiet_want; refine quietC_ne_row8 (.tmp 52) (.tmp 54) s.x HW.out.x rfl rfl ?_; go_big_quiet_op; go_big_quiet_on
    go_big_quiet_want; go_big_quiet_op; go_big_quiet_on
    go_big_quiet_want; go_big_quiet_op; go_big_quiet_on
    go_big_quiet_want; go_big_quiet_op; go_big_quiet_on
    go_big_quiet_want; refine quietC_load 25 (.tmp 58) w2.heap.size 9 rfl ([.bool s.c, .bool s.p, .bool s.z, .bool s.s, .bool s.o, .bool s.d]) _ (fun u hu => range_part (HCt.out u hu) 9 ([.bool s.c, .bool s.p, .bool s.z, .bool s.s, .bool s.o, .bool s.d]) rfl) Try.underlying25 rfl info_fl ?_; go_big_quiet_op; go_big_quiet_on
    go_big_quiet_want; go_big_quiet_op; go_big_quiet_on
    go_big_quiet_want; refine quietC_load 25 (.tmp 60) w.heap.size 9 rfl ([.bool s.c, .bool s.p, .bool s.z, .bool s.s, .bool s.o, .bool s.d]) _ (fun u hu => range_part (HCs.out u hu) 9 ([.bool s.c, .bool s.p, .bool s.z, .bool s.s, .bool s.o, .bool s.d]) rfl) Try.underlying25 rfl info_fl ?_; go_big_quiet_op; go_big_quiet_on
    go_big_quiet_want; refine quietC_ne_fl (.tmp 59) (.tmp 61) s.c s.p s.z s.s s.o s.d rfl rfl ?_; go_big_quiet_op; go_big_quiet_on
    go_big_quiet_want; go_big_quiet_op; go_big_quiet_on
    go_big_quiet_want; go_big_quiet_op; go_big_quiet_on
    go_big_quiet_want; go_big_quiet_op; go_big_quiet_on
    go_big_quiet_want; refine quietC_read 22 (.tmp 65) (.int .u32 s.ip) (fun u hu => by have := HCt.out u hu 8 _ rfl; simp [Act.eval, go_sem, this]) ?_; go_big_quiet_op; go_big_quiet_on
    go_big_quiet_want; go_big_quiet_op; go_big_quiet_on
    go_big_quiet_want; refine quietC_read 22 (.tmp 67) (.int .u32 s.ip) (fun u hu => by have := HCs.out u hu 8 _ rfl; simp [Act.eval, go_sem, this]) ?_; go_big_quiet_op; go_big_quiet_on
    go_big_quiet_want; go_big_quiet_op; go_big_quiet_on
    go_big_quiet_want; go_big_quiet_op; go_big_quiet_on
    refine wpQuiet_nil ?_
    intro w5 hw5
    have HL := Lib.hid (HCl.out w5 hw5)
    clear hw5 hne
    obtain ⟨d0, hd0⟩ : ∃ x, w5.heap.size = x := ⟨_, rfl⟩
    go_upto_region 9 with fail
    obtain ⟨W2, hW2⟩ : ∃ W, W = (w5.alloc (.cells #[.int .i64 5, .int .i64 (j : Int), .int .i64 0, .int .i64 0, .int .i64 0, .int .u32 0] 32)).alloc (.cells #[.int .i64 1, .int .i64 (j : Int), .int .i64 0, .int .i64 0, .int .i64 0, .int .u32 0] 32) := ⟨_, rfl⟩
    rw [← hW2]
    have HL := Lib.hid (show Lies w [(d0 + 1, [.int .i64 1, .int .i64 (j : Int), .int .i64 0, .int .i64 0, .int .i64 0, .int .u32 0]), (d0, [.int .i64 5, .int .i64 (j : Int), .int .i64 0, .int .i64 0, .int .i64 0, .int .u32 0]), (w2.heap.size, staL ({ s with r := R } : Sta)), (x0, [.int .i64 2, .int .i64 (j : Int), .int .i64 0, .int .i64 0, .int .i64 0, .int .u32 0]), (w.heap.size, staL s)] W2 by rw [hW2]; exact (HL.out.lit #[.int .i64 5, .int .i64 (j : Int), .int .i64 0, .int .i64 0, .int .i64 0, .int .u32 0] 32 d0 hd0.symm).lit #[.int .i64 1, .int .i64 (j : Int), .int .i64 0, .int .i64 0, .int .i64 0, .int .u32 0] 32 (d0 + 1) (by rw [← hd0]; simp))
    clear hW2 hd0
    obtain ⟨C, hC⟩ : ∃ C : World → Prop, C = Lies w [(d0 + 1, [.int .i64 1, .int .i64 (j : Int), .int .i64 0, .int .i64 0, .int .i64 0, .int .u32 0]), (d0, [.int .i64 5, .int .i64 (j : Int), .int .i64 0, .int .i64 0, .int .i64 0, .int .u32 0]), (w2.heap.size, staL ({ s with r := R } : Sta)), (x0, [.int .i64 2, .int .i64 (j : Int), .int .i64 0, .int .i64 0, .int .i64 0, .int .u32 0]), (w.heap.size, staL s)] := ⟨_, rfl⟩
    have HCs := Lib.hid (show ∀ u, C u → u.rangeAt w.heap.size 0 (staL s) from fun u hu => by rw [hC] at hu; exact hu.at_ _ _ (by simp))
    have HCd := Lib.hid (show ∀ u, C u → u.rangeAt d0 0 [.int .i64 5, .int .i64 (j : Int), .int .i64 0, .int .i64 0, .int .i64 0, .int .u32 0] from fun u hu => by rw [hC] at hu; exact hu.at_ _ _ (by simp))
    have HCe := Lib.hid (show ∀ u, C u → u.rangeAt (d0 + 1) 0 [.int .i64 1, .int .i64 (j : Int), .int .i64 0, .int .i64 0, .int .i64 0, .int .u32 0] from fun u hu => by rw [hC] at hu; exact hu.at_ _ _ (by simp))
    have HCo := Lib.hid (show ∀ u u', C u → Below u.heap.size u u' → C u' from fun u u' hu hb => by rw [hC] at hu ⊢; exact hu.on hb)
    have HCb := Lib.hid (show ∀ u, C u → Below w.heap.size w u from fun u hu => by rw [hC] at hu; exact hu.below)
    have hC0 : C { W2 with drawn := W2.drawn + 1 } := by rw [hC]; exact HL.out.drew
    have hne := class_const hC0
    clear hC
    refine wp_region_quietC C (by kernel_rfl) (by kernel_rfl) hC0 ?_
    clear hC0
    go_big_quiet_want; refine quietC_load 29 (.tmp 4) w.heap.size 0 rfl (staL s) _ HCs.out Try.underlying29 rfl info_sta ?_; go_big_quiet_op; go_big_quiet_on
    go_big_quiet_want; refine quietC_load 32 (.tmp 12) d0 0 rfl ([.int .i64 5, .int .i64 (j : Int), .int .i64 0, .int .i64 0, .int .i64 0, .int .u32 0]) _ HCd.out Try.underlying32 rfl info_opd1 ?_; go_big_quiet_op; go_big_quiet_on
    go_big_quiet_want; go_big_quiet_op; go_big_quiet_on
    go_big_quiet_want; refine quietC_call 7 #[.tmp 79, .tmp 80, .tmp 81] _ #[.agg (staL s).toArray, .agg #[.int .i64 5, .int .i64 (j : Int), .int .i64 0, .int .i64 0, .int .i64 0, .int .u32 0], .int .u64 v] (.agg (staL TD).toArray) (fun u _ => by simp [Act.eval, go_sem]) (fun u hu => (H5.out u).mono fun _ _ ⟨h1, h2⟩ => ⟨h1, HCo.out u _ hu h2⟩) ?_; go_big_quiet_op; go_big_quiet_on
    go_big_quiet_want; refine quietC_load 32 (.tmp 12) d0 0 rfl ([.int .i64 5, .int .i64 (j : Int), .int .i64 0, .int .i64 0, .int .i64 0, .int .u32 0]) _ HCd.out Try.underlying32 rfl info_opd1 ?_; go_big_quiet_op; go_big_quiet_on
    go_big_quiet_want; refine quietC_call 8 #[.tmp 82, .tmp 83] _ #[.agg (staL TD).toArray, .agg #[.int .i64 5, .int .i64 (j : Int), .int .i64 0, .int .i64 0, .int .i64 0, .int .u32 0]] (.int .u64 v) (fun u _ => by simp [Act.eval, go_sem]) (fun u hu => (H6.out u).mono fun _ _ ⟨h1, h2⟩ => ⟨h1, HCo.out u _ hu h2⟩) ?_; go_big_quiet_op; go_big_quiet_on
    go_big_quiet_want; go_big_quiet_op; go_big_quiet_on
    go_big_quiet_want; go_big_quiet_op; go_big_quiet_on
    go_big_quiet_want; go_big_quiet_op; go_big_quiet_on
    go_big_quiet_want; refine quietC_load 29 (.tmp 4) w.heap.size 0 rfl (staL s) _ HCs.out Try.underlying29 rfl info_sta ?_; go_big_quiet_op; go_big_quiet_on
    go_big_quiet_want; refine quietC_load 32 (.tmp 13) (d0 + 1) 0 rfl ([.int .i64 1, .int .i64 (j : Int), .int .i64 0, .int .i64 0, .int .i64 0, .int .u32 0]) _ HCe.out Try.underlying32 rfl info_opd1 ?_; go_big_quiet_op; go_big_quiet_on
    go_big_quiet_want; go_big_quiet_op; go_big_quiet_on
    go_big_quiet_want; refine quietC_call 7 #[.tmp 88, .tmp 89, .tmp 90] _ #[.agg (staL s).toArray, .agg #[.int .i64 1, .int .i64 (j : Int), .int .i64 0, .int .i64 0, .int .i64 0, .int .u32 0], .int .u64 v] (.agg (staL TE).toArray) (fun u _ => by simp [Act.eval, go_sem]) (fun u hu => (H7.out u).mono fun _ _ ⟨h1, h2⟩ => ⟨h1, HCo.out u _ hu h2⟩) ?_; go_big_quiet_op; go_big_quiet_on
    go_big_quiet_want; refine quietC_load 32 (.tmp 13) (d0 + 1) 0 rfl ([.int .i64 1, .int .i64 (j : Int), .int .i64 0, .int .i64 0, .int .i64 0, .int .u32 0]) _ HCe.out Try.underlying32 rfl info_opd1 ?_; go_big_quiet_op; go_big_quiet_on
    go_big_quiet_want; refine quietC_call 8 #[.tmp 91, .tmp 92] _ #[.agg (staL TE).toArray, .agg #[.int .i64 1, .int .i64 (j : Int), .int .i64 0, .int .i64 0, .int .i64 0, .int .u32 0]] (.int .u64 V4) (fun u _ => by simp [Act.eval, go_sem]) (fun u hu => (H8.out u).mono fun _ _ ⟨h1, h2⟩ => ⟨h1, HCo.out u _ hu h2⟩) ?_; go_big_quiet_op; go_big_quiet_on
    go_big_quiet_want; go_big_quiet_op; go_big_quiet_on
    go_big_quiet_want; go_big_quiet_op; go_big_quiet_on
    go_big_quiet_want; go_big_quiet_op; go_big_quiet_on
    go_big_quiet_want; go_big_quiet_op; go_big_quiet_on
    go_big_quiet_want; go_big_quiet_op; go_big_quiet_on
    go_big_quiet_want; refine quietC_load 29 (.tmp 4) w.heap.size 0 rfl (staL s) _ HCs.out Try.underlying29 rfl info_sta ?_; go_big_quiet_op; go_big_quiet_on
    go_big_quiet_want; refine quietC_load 32 (.tmp 12) d0 0 rfl ([.int .i64 5, .int .i64 (j : Int), .int .i64 0, .int .i64 0, .int .i64 0, .int .u32 0]) _ HCd.out Try.underlying32 rfl info_opd1 ?_; go_big_quiet_op; go_big_quiet_on
    go_big_quiet_want; go_big_quiet_op; go_big_quiet_on
    go_big_quiet_want; refine quietC_call 7 #[.tmp 99, .tmp 100, .tmp 101] _ #[.agg (staL s).toArray, .agg #[.int .i64 5, .int .i64 (j : Int), .int .i64 0, .int .i64 0, .int .i64 0, .int .u32 0], .int .u64 v] (.agg (staL TD).toArray) (fun u _ => by simp [Act.eval, go_sem]) (fun u hu => (H5.out u).mono fun _ _ ⟨h1, h2⟩ => ⟨h1, HCo.out u _ hu h2⟩) ?_; go_big_quiet_op; go_big_quiet_on
    go_big_quiet_want; refine quietC_val _ (.agg (rowL_u32 s.r).toArray) (fun u _ => by rw [← HDR.out]; kernel_rfl) ?_; go_big_quiet_op; go_big_quiet_on
    go_big_quiet_want; go_big_quiet_op; go_big_quiet_on
    go_big_quiet_want; refine quietC_load 23 (.tmp 104) w.heap.size 0 rfl (rowL_u32 s.r) _ (fun u hu => range_part (HCs.out u hu) 0 (rowL_u32 s.r) rfl) Try.underlying23 rfl info_row_u32 ?_; go_big_quiet_op; go_big_quiet_on
    go_big_quiet_want; refine quietC_eq_row4 (.tmp 103) (.tmp 105) s.r HW.out.r rfl rfl ?_; go_big_quiet_op; go_big_quiet_on
    go_big_quiet_want; go_big_quiet_op; go_big_quiet_on
    go_big_quiet_want; go_big_quiet_op; go_big_quiet_on
    refine wpQuiet_nil ?_
    intro w6 hw6
    have HB := Lib.hid (HCb.out w6 hw6)
    clear hw6 hne
    go_wp2_with fail
    go_returns
    exact ⟨rfl, HB.out⟩
end Go.Proofs.Ytplghmkicdpbfaa
