import Derived.Great.BuildSlice
import Derived.WalkLawsBesides
import Derived.KernelRfl
import Derived.Deep.DeepCutAuto
import Derived.Deep.CutBlock
import Derived.Test.YtgihiddiceinhaaDoorKNIM
import Derived.Test.YtgihiddiceinhaaDoorKNP11
namespace Go.Proofs.YtgihiddiceinhaaDoor
open Go.ChangeShapes Go.WideShapes Go.ChangeAt Go.RowKit
def tx (l : List UInt8) : ByteArray := ⟨l.toArray⟩
def opNames : List (List UInt8) := [[63], [97, 100, 100], [111, 114], [97, 100, 99], [115, 98, 98], [97, 110, 100], [115, 117, 98], [120, 111, 114], [99, 109, 112], [116, 101, 115, 116], [110, 111, 116], [110, 101, 103], [109, 117, 108], [105, 109, 117, 108], [100, 105, 118], [105, 100, 105, 118], [105, 110, 99], [100, 101, 99], [109, 111, 118], [109, 111, 118, 122, 120], [109, 111, 118, 115, 120], [108, 101, 97], [120, 99, 104, 103], [112, 117, 115, 104], [112, 111, 112], [105, 109, 117, 108], [114, 111, 108], [114, 111, 114], [115, 104, 108], [115, 104, 114], [115, 97, 114], [106], [106, 109, 112], [99, 97, 108, 108], [114, 101, 116], [115, 101, 116], [99, 109, 111, 118], [99, 119, 100, 101], [99, 100, 113], [104, 108, 116], [105, 110, 116, 51], [99, 108, 99], [115, 116, 99], [99, 109, 99], [99, 108, 100], [115, 116, 100], [109, 111, 118, 115], [115, 116, 111, 115], [108, 111, 100, 115], [108, 101, 97, 118, 101], [110, 111, 112], [109, 111, 118, 115, 100], [97, 100, 100, 115, 100], [109, 117, 108, 115, 100], [115, 117, 98, 115, 100], [109, 105, 110, 115, 100], [100, 105, 118, 115, 100], [109, 97, 120, 115, 100], [115, 113, 114, 116, 115, 100], [99, 118, 116, 115, 105, 50, 115, 100], [99, 118, 116, 116, 115, 100, 50, 115, 105], [117, 99, 111, 109, 105, 115, 100]]
def reg4 : List (List UInt8) := [[101, 97, 120], [101, 99, 120], [101, 100, 120], [101, 98, 120], [101, 115, 112], [101, 98, 112], [101, 115, 105], [101, 100, 105]]
def reg1 : List (List UInt8) := [[97, 108], [99, 108], [100, 108], [98, 108], [97, 104], [99, 104], [100, 104], [98, 104]]
def opN (op : Int) : List UInt8 := if 0 ≤ op ∧ op ≤ 61 then opNames.getD op.toNat [] else [63]
def regN (l : List (List UInt8)) (r : Int) : List UInt8 := l.getD r.toNat []
def hexD (v : Int) : UInt8 := [48, 49, 50, 51, 52, 53, 54, 55, 56, 57, 97, 98, 99, 100, 101, 102].getD v.toNat 0
def hexN : Nat → Int → List UInt8
  | 0, _ => []
  | n + 1, v => if v < 16 then [hexD v] else hexN n (v / 16) ++ [hexD (v % 16)]
def decN : Nat → Int → List UInt8
  | 0, _ => []
  | n + 1, v => if v < 10 then [hexD v] else decN n (v / 10) ++ [hexD (v % 10)]
theorem tx_app (a b : List UInt8) : tx a ++ tx b = tx (a ++ b) := by unfold tx; rw [ByteArray.ext_iff]; simp
theorem rin_b {v a b : Int} {B : Bool} (h : decide (a ≤ v ∧ v ≤ b) = B) (w : World) : Calls Tryd.prog 14 #[.int .i64 v, .int .i64 a, .int .i64 b] w fun e w' => e = .returned (.bool B) ∧ w = w' := by
  subst h
  exact rin_any v a b w
theorem tx_size (l : List UInt8) : (tx l).size = l.length := rfl
theorem hex_len : ∀ (n : Nat) (v : Int), (hexN n v).length ≤ n
  | 0, _ => Nat.le_refl _
  | n + 1, v => by
    unfold hexN
    split
    · simp
    · have := hex_len n (v / 16)
      simp only [List.length_append, List.length_cons, List.length_nil]
      omega
theorem dec_len : ∀ (n : Nat) (v : Int), (decN n v).length ≤ n
  | 0, _ => Nat.le_refl _
  | n + 1, v => by
    unfold decN
    split
    · simp
    · have := dec_len n (v / 10)
      simp only [List.length_append, List.length_cons, List.length_nil]
      omega
def hexS (v : Int) : List UInt8 := hexN 8 v
def decS (v : Int) : List UInt8 := decN 20 v
set_option maxRecDepth 100000
set_option maxHeartbeats 2000000
theorem rhex_one (v : Int) (v0 : 0 ≤ v) (v1 : v < 16) (w : World) : Calls Tryd.prog 20 #[.int .u32 v] w fun e w' => e = .returned (.string (tx [hexD v])) ∧ w = w' := by
  have hv : v = 0 ∨ v = 1 ∨ v = 2 ∨ v = 3 ∨ v = 4 ∨ v = 5 ∨ v = 6 ∨ v = 7 ∨ v = 8 ∨ v = 9 ∨ v = 10 ∨ v = 11 ∨ v = 12 ∨ v = 13 ∨ v = 14 ∨ v = 15 := by omega
  clear v0 v1
  rcases hv with rfl | rfl | rfl | rfl | rfl | rfl | rfl | rfl | rfl | rfl | rfl | rfl | rfl | rfl | rfl | rfl
  all_goals
    go_enter Tryd.func20, Tryd.ntmps20
    go_wp2_with fail
    go_ret
    exact ⟨rfl, rfl⟩
theorem rhex_n : ∀ (n : Nat) (_ : n ≤ 100) (v : Int) (_ : 0 ≤ v) (_ : v < 4294967296) (_ : v < 16 ^ (n + 1)) (w : World), Calls Tryd.prog 20 #[.int .u32 v] w fun e w' => e = .returned (.string (tx (hexN (n + 1) v))) ∧ w = w'
  | 0, _, v, h0, hM, h1, w => by
    have h1 : v < 16 := by simpa using h1
    have := rhex_one v h0 h1 w
    unfold hexN
    rw [if_pos h1]
    exact this
  | n + 1, hn, v, h0, hM, h1, w => by
    by_cases h : v < 16
    · have := rhex_one v h0 h w
      unfold hexN
      rw [if_pos h]
      exact this
    · have e : hexN (n + 1 + 1) v = hexN (n + 1) (v / 16) ++ [hexD (v % 16)] := by
        show (if v < 16 then _ else _) = _
        rw [if_neg h]
      rw [e]
      have HC := Lib.hid (fun w => rhex_n n (by omega) (v / 16) (by omega) (by omega) (by have : (16 : Int) ^ (n + 1 + 1) = 16 ^ (n + 1) * 16 := Int.pow_succ .. ; omega) w)
      have HD := Lib.hid (rhex_one (v % 16) (by omega) (by omega))
      have d : decide (v < 16) = false := by simpa using h
      have hz : (tx (hexN (n + 1) (v / 16))).size + (tx [hexD (v % 16)]).size ≤ 9223372036854775807 := by
        rw [tx_size, tx_size]
        have := hex_len (n + 1) (v / 16)
        simp only [List.length_cons, List.length_nil]
        omega
      clear e h1 h
      go_enter Tryd.func20, Tryd.ntmps20
      go_wp2_with fail
      ((with_reducible refine (HC.out _).mono ?_); rintro e w' ⟨rfl, rfl⟩)
      go_wp2_with fail
      ((with_reducible refine (HD.out _).mono ?_); rintro e w' ⟨rfl, rfl⟩)
      go_wp2_with fail
      go_ret
      exact ⟨by rw [tx_app]; rfl, rfl⟩
set_option maxRecDepth 512
theorem rhex_any (v : Int) (h0 : 0 ≤ v) (hM : v < 4294967296) (w : World) : Calls Tryd.prog 20 #[.int .u32 v] w fun e w' => e = .returned (.string (tx (hexS v))) ∧ w = w' := rhex_n 7 (by decide) v h0 hM (by simpa using hM) w
set_option maxRecDepth 100000
theorem rdec_one (v : Int) (v0 : 0 ≤ v) (v1 : v < 10) (w : World) : Calls Tryd.prog 22 #[.int .i64 v] w fun e w' => e = .returned (.string (tx [hexD v])) ∧ w = w' := by
  have hv : v = 0 ∨ v = 1 ∨ v = 2 ∨ v = 3 ∨ v = 4 ∨ v = 5 ∨ v = 6 ∨ v = 7 ∨ v = 8 ∨ v = 9 := by omega
  clear v0 v1
  rcases hv with rfl | rfl | rfl | rfl | rfl | rfl | rfl | rfl | rfl | rfl
  all_goals
    go_enter Tryd.func22, Tryd.ntmps22
    go_wp2_with fail
    go_ret
    exact ⟨rfl, rfl⟩
theorem rdec_n : ∀ (n : Nat) (_ : n ≤ 100) (v : Int) (_ : 0 ≤ v) (_ : v < 9223372036854775808) (_ : v < 10 ^ (n + 1)) (w : World), Calls Tryd.prog 22 #[.int .i64 v] w fun e w' => e = .returned (.string (tx (decN (n + 1) v))) ∧ w = w'
  | 0, _, v, h0, hM, h1, w => by
    have h1 : v < 10 := by simpa using h1
    have := rdec_one v h0 h1 w
    unfold decN
    rw [if_pos h1]
    exact this
  | n + 1, hn, v, h0, hM, h1, w => by
    by_cases h : v < 10
    · have := rdec_one v h0 h w
      unfold decN
      rw [if_pos h]
      exact this
    · have e : decN (n + 1 + 1) v = decN (n + 1) (v / 10) ++ [hexD (v % 10)] := by
        show (if v < 10 then _ else _) = _
        rw [if_neg h]
      rw [e]
      have HC := Lib.hid (fun w => rdec_n n (by omega) (v / 10) (by omega) (by omega) (by have : (10 : Int) ^ (n + 1 + 1) = 10 ^ (n + 1) * 10 := Int.pow_succ .. ; omega) w)
      have HD := Lib.hid (rdec_one (v % 10) (by omega) (by omega))
      have d : decide (v < 10) = false := by simpa using h
      have hz : (tx (decN (n + 1) (v / 10))).size + (tx [hexD (v % 10)]).size ≤ 9223372036854775807 := by
        rw [tx_size, tx_size]
        have := dec_len (n + 1) (v / 10)
        simp only [List.length_cons, List.length_nil]
        omega
      clear e h1 h
      go_enter Tryd.func22, Tryd.ntmps22
      go_wp2_with fail
      ((with_reducible refine (HC.out _).mono ?_); rintro e w' ⟨rfl, rfl⟩)
      go_wp2_with fail
      ((with_reducible refine (HD.out _).mono ?_); rintro e w' ⟨rfl, rfl⟩)
      go_wp2_with fail
      go_ret
      exact ⟨by rw [tx_app]; rfl, rfl⟩
set_option maxRecDepth 512
theorem rdec_any (v : Int) (h0 : 0 ≤ v) (hM : v < 9223372036854775808) (w : World) : Calls Tryd.prog 22 #[.int .i64 v] w fun e w' => e = .returned (.string (tx (decS v))) ∧ w = w' := by
  have h : (10 : Int) ^ (19 + 1) = 100000000000000000000 := by decide +kernel
  exact rdec_n 19 (by decide) v h0 hM (by omega) w
def strA (l : List (List UInt8)) : Array Value := (l.map fun s => Value.string (tx s)).toArray
theorem str_row {l : List (List UInt8)} {j : Nat} (h : j < l.length) (w : World) : (w.alloc (.cells (strA l) 9)).cell? ⟨w.heap.size, j, none⟩ = some (.string (tx (l.getD j []))) := by
  rw [World.cell?_alloc_new]
  unfold strA
  simp [List.getElem?_eq_getElem h]
theorem str_info : ∃ ie, Tryd.prog.info? 9 = some ie ∧ ie.zero = some (.string ⟨#[]⟩) ∧ ie.size = 1 := by
  have h : (Tryd.prog.info? 9).map (fun i => (i.zero, i.size)) = some (some (.string ⟨#[]⟩), 1) := by kernel_rfl
  cases hi : Tryd.prog.info? 9 with
  | none => rw [hi] at h; cases h
  | some i =>
    rw [hi] at h
    simp only [Option.map_some, Option.some.injEq, Prod.mk.injEq] at h
    exact ⟨i, rfl, h.1, h.2⟩
set_option maxRecDepth 100000
set_option maxHeartbeats 4000000
theorem rreg32_any (r : Nat) (h : r < 8) (w : World) : Calls Tryd.prog 21 #[.int .i64 r] w fun e w' => e = .returned (.string (tx (regN reg4 r))) ∧ Below w.heap.size w w' := by
  obtain ⟨ie, hie, hz, hsz⟩ := str_info
  have hc := str_row (l := reg4) (j := r) (by simpa [reg4] using h) w
  have HR := Lib.hid (show regN reg4 (r : Int) = reg4.getD r [] by unfold regN; simp)
  have h8 : (r : Int) < 8 := by omega
  rw [HR.out]
  obtain ⟨s, hs⟩ : ∃ s, reg4.getD r [] = s := ⟨_, rfl⟩
  rw [hs] at hc ⊢
  have HI := Lib.hid (And.intro hie (And.intro hz hsz))
  clear hs hie hz hsz HR
  go_enter Tryd.func21, Tryd.ntmps21
  go_wp2_with (refine wpList_buildSlice rfl 38 9 8 _ rfl (strA reg4) ie (.string ⟨#[]⟩) Tryd.underlying38 HI.out.1 HI.out.2.1 (by rw [HI.out.2.2]; decide) (by rw [HI.out.2.2]; decide) (by rw [HI.out.2.2]; kernel_rfl) ?_)
  go_ret
  exact ⟨rfl, below_last (Below.refl _ _) _⟩
theorem rtname_any (op : Int) (w : World) : Calls Tryd.prog 7 #[.int .i64 op] w fun e w' => e = .returned (.string (tx (opN op))) ∧ Below w.heap.size w w' := by
  obtain ⟨ie, hie, hz, hsz⟩ := str_info
  have HI := Lib.hid (And.intro hie (And.intro hz hsz))
  clear hie hz hsz
  by_cases h : 0 ≤ op ∧ op ≤ 61
  · obtain ⟨j, rfl⟩ := Int.eq_ofNat_of_zero_le h.1
    have hj : j < 62 := by omega
    have hc := str_row (l := opNames) (j := j) hj w
    have HR := Lib.hid (show opN (j : Int) = opNames.getD j [] by unfold opN; rw [if_pos h]; simp)
    have h8 : (j : Int) < 62 := by omega
    rw [HR.out]
    obtain ⟨s, hs⟩ : ∃ s, opNames.getD j [] = s := ⟨_, rfl⟩
    rw [hs] at hc ⊢
    have HIN := Lib.hid (rin_b (decide_eq_true (show (0 : Int) ≤ (j : Int) ∧ (j : Int) ≤ 61 from h)))
    clear hs HR h
    go_enter Tryd.func7, Tryd.ntmps7
    go_wp2_with (refine wpList_buildSlice rfl 38 9 62 _ rfl (strA opNames) ie (.string ⟨#[]⟩) Tryd.underlying38 HI.out.1 HI.out.2.1 (by rw [HI.out.2.2]; decide) (by rw [HI.out.2.2]; decide) (by rw [HI.out.2.2]; kernel_rfl) ?_)
    ((with_reducible refine (HIN.out _).mono ?_); rintro e w' ⟨rfl, rfl⟩)
    go_wp2_with fail
    go_ret
    exact ⟨rfl, below_last (Below.refl _ _) _⟩
  · have HR := Lib.hid (show opN op = [63] by unfold opN; rw [if_neg h])
    have HIN := Lib.hid (rin_b (decide_eq_false h))
    rw [HR.out]
    clear h HR
    go_enter Tryd.func7, Tryd.ntmps7
    go_wp2_with (refine wpList_buildSlice rfl 38 9 62 _ rfl (strA opNames) ie (.string ⟨#[]⟩) Tryd.underlying38 HI.out.1 HI.out.2.1 (by rw [HI.out.2.2]; decide) (by rw [HI.out.2.2]; decide) (by rw [HI.out.2.2]; kernel_rfl) ?_)
    ((with_reducible refine (HIN.out _).mono ?_); rintro e w' ⟨rfl, rfl⟩)
    go_wp2_with fail
    go_ret
    exact ⟨rfl, below_last (Below.refl _ _) _⟩
set_option maxRecDepth 512
def isR (v : Int) : Bool := decide (0 ≤ v ∧ v ≤ 7)
def mem0 (o : Opd) : List UInt8 := if isR o.base then regN reg4 o.base else []
def plus (l : List UInt8) : List UInt8 := if l.isEmpty then [] else l ++ [43]
def mem1 (o : Opd) : List UInt8 := if isR o.index then plus (mem0 o) ++ (regN reg4 o.index ++ (if 1 < o.scale then 42 :: decS o.scale else [])) else mem0 o
def mem2 (o : Opd) : List UInt8 := if o.disp != 0 || (mem1 o).isEmpty then plus (mem1 o) ++ (48 :: 120 :: hexS o.disp) else mem1 o
def sizeS (s : Int) : List UInt8 := if s = 1 then [98, 121, 116, 101, 32] else if s = 2 then [119, 111, 114, 100, 32] else if s = 4 then [100, 119, 111, 114, 100, 32] else if s = 8 then [113, 119, 111, 114, 100, 32] else []
def opdS (o : Opd) (size : Int) : List UInt8 :=
  if o.kind = 4 then 48 :: 120 :: hexS o.disp
  else if o.kind = 1 ∨ o.kind = 2 ∨ o.kind = 5 then (if isR o.reg then (if o.kind = 1 then regN reg4 o.reg else if o.kind = 2 then regN reg1 o.reg else 120 :: 109 :: 109 :: hexS o.reg) else [63])
  else if o.kind = 3 then sizeS size ++ (91 :: (mem2 o ++ [93])) else []
def pickS (key : Int) : List (Int × List UInt8) → List UInt8
  | [] => []
  | (k, v) :: l => if key = k then v else pickS key l
def mapSE : List (Int × List UInt8) → Nat → List MapEntry
  | [], _ => []
  | (k, v) :: l, i => { key := .int .i64 k, val := .string (tx v), born := i } :: mapSE l (i + 1)
def mapS : List (Int × List UInt8) := [(1, [98, 121, 116, 101, 32]), (2, [119, 111, 114, 100, 32]), (4, [100, 119, 111, 114, 100, 32]), (8, [113, 119, 111, 114, 100, 32])]
theorem find_mapSE (key : Int) : ∀ (l : List (Int × List UInt8)) (b i : Nat), (∃ j, Instr.findNow (.int .i64) (.int .i64 key) (mapSE l b) i = some (some (j, .string (tx (pickS key l))))) ∨ (Instr.findNow (.int .i64) (.int .i64 key) (mapSE l b) i = some none ∧ pickS key l = [])
  | [], _, _ => .inr ⟨rfl, rfl⟩
  | (k, v) :: l, b, i => by
    unfold mapSE pickS Instr.findNow
    by_cases h : key = k
    · subst h
      rw [show Instr.sameNow (.int .i64) (.int .i64 key) (.int .i64 key) = some true by simp [Instr.sameNow]]
      exact .inl ⟨i, by simp⟩
    · rw [show Instr.sameNow (.int .i64) (.int .i64 key) (.int .i64 k) = some false by simp [Instr.sameNow, h], if_neg h]
      exact find_mapSE key l (b + 1) (i + 1)
theorem strmap_get {P : Program} (w : World) (B : Nat) (hB : B = w.heap.size) (mty kt et : TypeId) (l : List (Int × List UInt8)) (clock : Nat) (key : Int) (hm : P.underlying mty = some (.map kt et)) (hk : P.underlying kt = some (.int .i64)) (hz : ∀ u, (zeroValue et).run P u = .ok (.string (tx [])) u) :
    (Instr.lookup mty (.map (some B)) (.int .i64 key) false).run P (w.alloc (.map (mapSE l 0).toArray clock)) = .ok (.string (tx (pickS key l))) (w.alloc (.map (mapSE l 0).toArray clock)) := by
  subst hB
  have hb : (w.alloc (.map (mapSE l 0).toArray clock)).heap[w.heap.size]? = some (.map (mapSE l 0).toArray clock) := by show (w.heap.push _)[w.heap.size]? = _; simp
  have hc : ∀ e, (Instr.checkKey e 10000 kt (.int .i64 key)).run P (w.alloc (.map (mapSE l 0).toArray clock)) = .ok () (w.alloc (.map (mapSE l 0).toArray clock)) := fun e => MapKept.run_checkKey (k := .int .i64 key) hk (by simp [MapKept.IsKey]) e 9999
  rcases find_mapSE key l 0 0 with ⟨j, hf⟩ | ⟨hf, h0⟩
  · simp [Instr.lookup, run_underlying hm, MapKept.run_getObj_map hb, hc, MapKept.run_findKey hk hf, Result.andThen]
  · simp [Instr.lookup, run_underlying hm, MapKept.run_getObj_map hb, hc, MapKept.run_findKey hk hf, Result.andThen, hz, h0]
theorem zero_str (u : World) : (zeroValue 9).run Tryd.prog u = .ok (.string (tx [])) u := by kernel_rfl
structure OB (w : World) (o : Opd) (u : World) : Prop where
  b : u.heap[w.heap.size]? = some (.cells (opC o) 27 (0, 0))
  bel : Below w.heap.size w u
theorem OB.on {w u u' : World} {o : Opd} (h : OB w o u) (hb : Below u.heap.size u u') : OB w o u' := ⟨(hb.block _ (Array.getElem?_eq_some_iff.1 h.b).1).trans h.b, h.bel.trans (hb.mono h.bel.size)⟩
theorem OB.start (w : World) (o : Opd) : OB w o (w.alloc (.cells (opC o) 27)) := ⟨by show (w.heap.push _)[w.heap.size]? = _; simp, below_last (Below.refl _ _) _⟩
theorem tx_list (l : List UInt8) : (tx l).toList = l := by simp [tx]
theorem tx_empty (l : List UInt8) : (tx l).toList.isEmpty = l.isEmpty := by rw [tx_list]
theorem app1 (l : List UInt8) (c : UInt8) : tx l ++ ({ data := #[c] } : ByteArray) = tx (l ++ [c]) := tx_app l [c]
theorem reg_len (r : Int) : (regN reg4 r).length ≤ 3 := by
  unfold regN
  have h : ∀ x ∈ reg4, x.length ≤ 3 := by decide
  rw [List.getD_eq_getElem?_getD]
  cases hi : reg4[r.toNat]? with
  | none => exact Nat.zero_le _
  | some x => exact h x (List.mem_of_getElem? hi)
theorem plus_len (l : List UInt8) : (plus l).length ≤ l.length + 1 := by
  unfold plus
  split
  · simp
  · simp
theorem mem0_len (o : Opd) : (mem0 o).length ≤ 3 := by
  unfold mem0
  split
  · exact reg_len _
  · exact Nat.zero_le _
theorem mem1_len (o : Opd) : (mem1 o).length ≤ 40 := by
  have h0 := mem0_len o
  have h1 := plus_len (mem0 o)
  have h2 := reg_len o.index
  have h3 := dec_len 20 o.scale
  unfold mem1
  split
  · simp only [List.length_append]
    split
    · simp only [List.length_cons]; unfold decS; omega
    · simp only [List.length_nil]; omega
  · omega
theorem mem2_len (o : Opd) : (mem2 o).length ≤ 60 := by
  have h0 := mem1_len o
  have h1 := plus_len (mem1 o)
  have h3 := hex_len 8 o.disp
  unfold mem2
  split
  · simp only [List.length_append, List.length_cons]; unfold hexS; omega
  · omega
theorem heap_new {w w1 : World} {o : Obj} (h : w1 = w.alloc o) : w1.heap[w.heap.size]? = some o := by subst h; show (w.heap.push _)[w.heap.size]? = _; simp
theorem reg_nat {b : Int} (h : isR b = true) : ∃ j : Nat, b = (j : Int) ∧ j < 8 := by
  have h := of_decide_eq_true h
  exact ⟨b.toNat, by omega, by omega⟩
set_option maxRecDepth 100000
set_option maxHeartbeats 8000000
theorem rmem_any (r b i s d size : Int) (d0 : 0 ≤ d) (d1 : d < 4294967296) (s1 : s < 9223372036854775808) (w : World) : Calls Tryd.prog 9 #[opV ⟨3, r, b, i, s, d⟩, .int .i64 size] w fun e w' => e = .returned (.string (tx (opdS ⟨3, r, b, i, s, d⟩ size))) ∧ Below w.heap.size w w' := by
  have HOB := Lib.hid (OB.start w ⟨3, r, b, i, s, d⟩)
  have HIB := Lib.hid (rin_b (v := b) (a := 0) (b := 7) (B := isR b) rfl)
  have HII := Lib.hid (rin_b (v := i) (a := 0) (b := 7) (B := isR i) rfl)
  obtain ⟨M0, hM0⟩ : ∃ M, mem0 ⟨3, r, b, i, s, d⟩ = M := ⟨_, rfl⟩
  obtain ⟨M1, hM1⟩ : ∃ M, mem1 ⟨3, r, b, i, s, d⟩ = M := ⟨_, rfl⟩
  obtain ⟨M2, hM2⟩ : ∃ M, mem2 ⟨3, r, b, i, s, d⟩ = M := ⟨_, rfl⟩
  have HM0 := Lib.hid hM0
  have HM1 := Lib.hid hM1
  have HM2 := Lib.hid hM2
  clear hM0 hM1 hM2
  unfold opV
  go_enter Tryd.func9, Tryd.ntmps9
  go_upto_if 46 with ((with_reducible refine (HIB.out _).mono ?_); rintro e w' ⟨rfl, rfl⟩)
  obtain ⟨w1, hw1⟩ : ∃ w1, w1 = w.alloc (.cells (opC ⟨3, r, b, i, s, d⟩) 27) := ⟨_, rfl⟩
  rw [← hw1] at HOB
  rw [show w.alloc (.cells #[.int .i64 3, .int .i64 r, .int .i64 b, .int .i64 i, .int .i64 s, .int .u32 d] 27) = w1 from hw1.symm]
  clear hw1
  go_cut [5] (fun s5 wx => s5 = .string (tx M0) ∧ OB w ⟨3, r, b, i, s, d⟩ wx)
  case first =>
    have c2 : w1.cell? ⟨w.heap.size, 2, none⟩ = some (.int .i64 b) := (cell_block HOB.out.b 2).1
    cases hb : isR b with
    | false =>
      have HB := Lib.hid hb
      clear hb
      go_wp2_with fail
      go_meet
      exact ⟨by rw [← HM0.out]; unfold mem0; dsimp only; rw [HB.out]; rfl, HOB.out⟩
    | true =>
      obtain ⟨j, rfl, hj⟩ := reg_nat hb
      have HB := Lib.hid hb
      clear hb
      go_wp2_with fail
      ((with_reducible refine (rreg32_any j hj _).mono ?_); rintro e w' ⟨rfl, hb'⟩)
      have HO := Lib.hid (HOB.out.on hb')
      clear hb'
      go_wp2_with fail
      go_meet
      exact ⟨by rw [← HM0.out]; unfold mem0; dsimp only; rw [HB.out]; rfl, HO.out⟩
  case rest =>
  obtain ⟨rfl, hOB⟩ := hcut
  have HO := Lib.hid hOB
  clear hOB
  have c3 : wc.cell? ⟨w.heap.size, 3, none⟩ = some (.int .i64 i) := (cell_block HO.out.b 3).1
  go_upto_if 52 with ((with_reducible refine (HII.out _).mono ?_); rintro e w' ⟨rfl, rfl⟩)
  go_cut [5] (fun s5 wx => s5 = .string (tx M1) ∧ OB w ⟨3, r, b, i, s, d⟩ wx)
  case first =>
    cases hi : isR i with
    | false =>
      have HB := Lib.hid hi
      clear hi
      go_wp2_with fail
      go_meet
      exact ⟨by rw [← HM1.out]; unfold mem1; dsimp only; rw [HB.out, ← HM0.out]; rfl, HO.out⟩
    | true =>
      obtain ⟨j, rfl, hj⟩ := reg_nat hi
      have HB := Lib.hid hi
      obtain ⟨R, hR⟩ : ∃ R, regN reg4 (j : Int) = R := ⟨_, rfl⟩
      have HR := Lib.hid (show Calls Tryd.prog 21 #[.int .i64 (j : Int)] wc fun e w' => e = .returned (.string (tx R)) ∧ Below wc.heap.size wc w' by rw [← hR]; exact rreg32_any j hj wc)
      obtain ⟨P, hP⟩ : ∃ P, plus M0 = P := ⟨_, rfl⟩
      have hl0 : M0.length ≤ 3 := by rw [← HM0.out]; exact mem0_len _
      have hlP : P.length ≤ 4 := by rw [← hP]; have := plus_len M0; omega
      have hlR : R.length ≤ 3 := by rw [← hR]; exact reg_len _
      have HP := Lib.hid hP
      have HRR := Lib.hid hR
      have HL := Lib.hid (And.intro hl0 (And.intro hlP hlR))
      clear hi hR hP hl0 hlP hlR
      go_upto_if 54 with fail
      go_cut [5] (fun s5 wx => s5 = .string (tx P) ∧ wc = wx)
      case first =>
        have z0 := tx_empty M0
        cases he : M0.isEmpty with
        | true =>
          rw [he] at z0
          rw [z0]
          have HE := Lib.hid he
          clear he
          go_wp2_with fail
          go_meet
          exact ⟨by rw [← HP.out]; unfold plus; rw [HE.out, List.isEmpty_iff.1 HE.out]; rfl, rfl⟩
        | false =>
          rw [he] at z0
          rw [z0]
          have HE := Lib.hid he
          have p0 := app1 M0 43
          have y0 : (tx M0).size + 1 ≤ 9223372036854775807 := by rw [tx_size]; have := HL.out; omega
          clear he
          go_wp2_with fail
          go_meet
          exact ⟨by rw [← HP.out]; unfold plus; rw [HE.out]; rfl, rfl⟩
      case rest =>
      obtain ⟨rfl, rfl⟩ := hcut
      have y1 : (tx P).size + (tx R).size ≤ 9223372036854775807 := by rw [tx_size, tx_size]; have := HL.out; omega
      obtain ⟨Q, hQ⟩ : ∃ Q, P ++ R = Q := ⟨_, rfl⟩
      obtain ⟨Q2, hQ2⟩ : ∃ Q2, Q ++ [42] = Q2 := ⟨_, rfl⟩
      have p1 : tx P ++ tx R = tx Q := by rw [← hQ]; exact tx_app P R
      have p2 : tx Q ++ ({ data := #[42] } : ByteArray) = tx Q2 := by rw [← hQ2]; exact app1 Q 42
      have hlQ : Q.length ≤ 7 := by rw [← hQ, List.length_append]; have := HL.out; omega
      have hlQ2 : Q2.length ≤ 8 := by rw [← hQ2, List.length_append]; simp only [List.length_cons, List.length_nil]; omega
      have y2 : (tx Q).size + 1 ≤ 9223372036854775807 := by rw [tx_size]; omega
      have HQ := Lib.hid (And.intro hQ hQ2)
      have HLQ := Lib.hid hlQ2
      clear hQ hQ2 hlQ hlQ2
      go_wp2_with fail
      ((with_reducible refine HR.out.mono ?_); rintro e w' ⟨rfl, hb'⟩)
      have HO2 := Lib.hid (HO.out.on hb')
      have c4 : w'.cell? ⟨w.heap.size, 4, none⟩ = some (.int .i64 s) := (cell_block HO2.out.b 4).1
      clear hb'
      by_cases hs : 1 < s
      · have ds : decide (1 < s) = true := decide_eq_true hs
        have HD := Lib.hid (rdec_any s (by omega) s1)
        obtain ⟨D, hD⟩ : ∃ D, decS s = D := ⟨_, rfl⟩
        rw [hD] at HD
        have hDl : D.length ≤ 20 := by rw [← hD]; exact dec_len 20 s
        have y3 : (tx Q2).size + (tx D).size ≤ 9223372036854775807 := by rw [tx_size, tx_size]; have := HLQ.out; omega
        obtain ⟨Q3, hQ3⟩ : ∃ Q3, Q2 ++ D = Q3 := ⟨_, rfl⟩
        have p3 : tx Q2 ++ tx D = tx Q3 := by rw [← hQ3]; exact tx_app Q2 D
        have HM := Lib.hid (show M1 = Q3 by rw [← HM1.out, ← hQ3, ← HQ.out.2, ← HQ.out.1]; unfold mem1; dsimp only; rw [HB.out, HM0.out, HP.out, HRR.out, hD, if_pos rfl, if_pos hs]; simp)
        clear hs hD hDl hQ3
        go_wp2_with fail
        ((with_reducible refine (HD.out _).mono ?_); rintro e w' ⟨rfl, rfl⟩)
        go_wp2_with fail
        go_meet
        exact ⟨by rw [HM.out], HO2.out⟩
      · have ds : decide (1 < s) = false := decide_eq_false hs
        have HM := Lib.hid (show M1 = Q by rw [← HM1.out, ← HQ.out.1]; unfold mem1; dsimp only; rw [HB.out, HM0.out, HP.out, HRR.out, if_pos rfl, if_neg hs]; simp)
        clear hs
        go_wp2_with fail
        go_meet
        exact ⟨by rw [HM.out], HO2.out⟩
  case rest =>
  obtain ⟨rfl, hOB⟩ := hcut
  have HO1 := Lib.hid hOB
  clear hOB HO c3
  have c5 : wc.cell? ⟨w.heap.size, 5, none⟩ = some (.int .u32 d) := (cell_block HO1.out.b 5).1
  have z1 := tx_empty M1
  go_upto_region 24 with fail
  go_cut [77] (fun s77 wx => s77 = .bool (d != 0 || M1.isEmpty) ∧ wc = wx)
  case first =>
    cases hd : (d != 0) with
    | true =>
      go_wp2_with fail
      go_meet
      exact ⟨by rw [hd]; rfl, rfl⟩
    | false =>
      go_wp2_with fail
      go_meet
      exact ⟨by rw [hd]; rfl, rfl⟩
  case rest =>
  obtain ⟨rfl, rfl⟩ := hcut
  go_upto_if 77 with fail
  go_cut [5] (fun s5 wx => s5 = .string (tx M2) ∧ OB w ⟨3, r, b, i, s, d⟩ wx)
  case first =>
    cases hB : (d != 0 || M1.isEmpty) with
    | false =>
      have HM := Lib.hid (show M2 = M1 by rw [← HM2.out]; unfold mem2; rw [HM1.out]; exact if_neg (by rw [hB]; decide))
      clear hB
      go_wp2_with fail
      go_meet
      exact ⟨by rw [HM.out], HO1.out⟩
    | true =>
      obtain ⟨P, hP⟩ : ∃ P, plus M1 = P := ⟨_, rfl⟩
      obtain ⟨H, hH⟩ : ∃ H, hexS d = H := ⟨_, rfl⟩
      obtain ⟨P2, hP2⟩ : ∃ P2, P ++ [48, 120] = P2 := ⟨_, rfl⟩
      have hl1 : M1.length ≤ 40 := by rw [← HM1.out]; exact mem1_len _
      have hlP : P.length ≤ 41 := by rw [← hP]; have := plus_len M1; omega
      have hlH : H.length ≤ 8 := by rw [← hH]; exact hex_len 8 d
      have HX := Lib.hid (fun w => rhex_any d d0 d1 w)
      rw [hH] at HX
      have HM := Lib.hid (show M2 = P2 ++ H by rw [← HM2.out]; unfold mem2; rw [HM1.out, hP, ← hP2]; dsimp only; rw [hH]; exact (if_pos hB).trans (by simp))
      have HP := Lib.hid hP
      have HL := Lib.hid (And.intro hl1 (And.intro hlP hlH))
      have p2 : tx P ++ ({ data := #[48, 120] } : ByteArray) = tx P2 := by rw [← hP2]; exact tx_app P [48, 120]
      have y2 : (tx P).size + 2 ≤ 9223372036854775807 := by rw [tx_size]; omega
      have y3 : (tx P2).size + (tx H).size ≤ 9223372036854775807 := by rw [tx_size, tx_size, ← hP2, List.length_append]; simp only [List.length_cons, List.length_nil]; omega
      have p3 := tx_app P2 H
      clear hB hP hH hP2 hl1 hlP hlH
      go_upto_if 79 with fail
      go_cut [5] (fun s5 wx => s5 = .string (tx P) ∧ wc = wx)
      case first =>
        cases he : M1.isEmpty with
        | true =>
          have HE := Lib.hid he
          clear he
          go_wp2_with fail
          go_meet
          exact ⟨by rw [← HP.out]; unfold plus; rw [HE.out, List.isEmpty_iff.1 HE.out]; rfl, rfl⟩
        | false =>
          have HE := Lib.hid he
          have p0 := app1 M1 43
          have y0 : (tx M1).size + 1 ≤ 9223372036854775807 := by rw [tx_size]; have := HL.out; omega
          clear he
          go_wp2_with fail
          go_meet
          exact ⟨by rw [← HP.out]; unfold plus; rw [HE.out]; rfl, rfl⟩
      case rest =>
      obtain ⟨rfl, rfl⟩ := hcut
      go_wp2_with fail
      ((with_reducible refine (HX.out _).mono ?_); rintro e w' ⟨rfl, rfl⟩)
      go_wp2_with fail
      go_meet
      exact ⟨by rw [HM.out], HO1.out⟩
  case rest =>
  obtain ⟨rfl, hOB⟩ := hcut
  have HO2 := Lib.hid hOB
  clear hOB z1 c5
  obtain ⟨K, hK⟩ : ∃ K, sizeS size = K := ⟨_, rfl⟩
  have HK := Lib.hid hK
  have hmm := @run_makeMap Tryd.prog
  have hm0 : (Instr.mapUpdate 41 (.map (some (wc.heap.size))) (.int .i64 1) (.string { data := #[98, 121, 116, 101, 32] })).run Tryd.prog (wc.alloc (.map #[] 0)) = .ok () (wc.alloc (.map #[{ key := .int .i64 1, val := .string { data := #[98, 121, 116, 101, 32] }, born := 0 }] 1)) := litmap_put _ _ rfl _ 3 9 .i64 #[] 0 1 _ Tryd.underlying41 Tryd.underlying3 rfl
  have hm1 : (Instr.mapUpdate 41 (.map (some (wc.heap.size))) (.int .i64 2) (.string { data := #[119, 111, 114, 100, 32] })).run Tryd.prog (wc.alloc (.map #[{ key := .int .i64 1, val := .string { data := #[98, 121, 116, 101, 32] }, born := 0 }] 1)) = .ok () (wc.alloc (.map #[{ key := .int .i64 1, val := .string { data := #[98, 121, 116, 101, 32] }, born := 0 }, { key := .int .i64 2, val := .string { data := #[119, 111, 114, 100, 32] }, born := 1 }] 2)) := litmap_put _ _ rfl _ 3 9 .i64 #[{ key := .int .i64 1, val := .string { data := #[98, 121, 116, 101, 32] }, born := 0 }] 1 2 _ Tryd.underlying41 Tryd.underlying3 rfl
  have hm2 : (Instr.mapUpdate 41 (.map (some (wc.heap.size))) (.int .i64 4) (.string { data := #[100, 119, 111, 114, 100, 32] })).run Tryd.prog (wc.alloc (.map #[{ key := .int .i64 1, val := .string { data := #[98, 121, 116, 101, 32] }, born := 0 }, { key := .int .i64 2, val := .string { data := #[119, 111, 114, 100, 32] }, born := 1 }] 2)) = .ok () (wc.alloc (.map #[{ key := .int .i64 1, val := .string { data := #[98, 121, 116, 101, 32] }, born := 0 }, { key := .int .i64 2, val := .string { data := #[119, 111, 114, 100, 32] }, born := 1 }, { key := .int .i64 4, val := .string { data := #[100, 119, 111, 114, 100, 32] }, born := 2 }] 3)) := litmap_put _ _ rfl _ 3 9 .i64 #[{ key := .int .i64 1, val := .string { data := #[98, 121, 116, 101, 32] }, born := 0 }, { key := .int .i64 2, val := .string { data := #[119, 111, 114, 100, 32] }, born := 1 }] 2 4 _ Tryd.underlying41 Tryd.underlying3 rfl
  have hm3 : (Instr.mapUpdate 41 (.map (some (wc.heap.size))) (.int .i64 8) (.string { data := #[113, 119, 111, 114, 100, 32] })).run Tryd.prog (wc.alloc (.map #[{ key := .int .i64 1, val := .string { data := #[98, 121, 116, 101, 32] }, born := 0 }, { key := .int .i64 2, val := .string { data := #[119, 111, 114, 100, 32] }, born := 1 }, { key := .int .i64 4, val := .string { data := #[100, 119, 111, 114, 100, 32] }, born := 2 }] 3)) = .ok () (wc.alloc (.map #[{ key := .int .i64 1, val := .string { data := #[98, 121, 116, 101, 32] }, born := 0 }, { key := .int .i64 2, val := .string { data := #[119, 111, 114, 100, 32] }, born := 1 }, { key := .int .i64 4, val := .string { data := #[100, 119, 111, 114, 100, 32] }, born := 2 }, { key := .int .i64 8, val := .string { data := #[113, 119, 111, 114, 100, 32] }, born := 3 }] 4)) := litmap_put _ _ rfl _ 3 9 .i64 #[{ key := .int .i64 1, val := .string { data := #[98, 121, 116, 101, 32] }, born := 0 }, { key := .int .i64 2, val := .string { data := #[119, 111, 114, 100, 32] }, born := 1 }, { key := .int .i64 4, val := .string { data := #[100, 119, 111, 114, 100, 32] }, born := 2 }] 3 8 _ Tryd.underlying41 Tryd.underlying3 rfl
  have hmg : (Instr.lookup 41 (.map (some (wc.heap.size))) (.int .i64 size) false).run Tryd.prog (wc.alloc (.map #[{ key := .int .i64 1, val := .string { data := #[98, 121, 116, 101, 32] }, born := 0 }, { key := .int .i64 2, val := .string { data := #[119, 111, 114, 100, 32] }, born := 1 }, { key := .int .i64 4, val := .string { data := #[100, 119, 111, 114, 100, 32] }, born := 2 }, { key := .int .i64 8, val := .string { data := #[113, 119, 111, 114, 100, 32] }, born := 3 }] 4)) = .ok (.string (tx K)) (wc.alloc (.map #[{ key := .int .i64 1, val := .string { data := #[98, 121, 116, 101, 32] }, born := 0 }, { key := .int .i64 2, val := .string { data := #[119, 111, 114, 100, 32] }, born := 1 }, { key := .int .i64 4, val := .string { data := #[100, 119, 111, 114, 100, 32] }, born := 2 }, { key := .int .i64 8, val := .string { data := #[113, 119, 111, 114, 100, 32] }, born := 3 }] 4)) := by
    rw [← hK, show sizeS size = pickS size mapS from rfl]
    exact strmap_get wc _ rfl _ 3 9 mapS 4 size Tryd.underlying41 Tryd.underlying3 zero_str
  have hKl : K.length ≤ 6 := by rw [← hK]; unfold sizeS; repeat' split
                                all_goals decide
  have hMl : M2.length ≤ 60 := by rw [← HM2.out]; exact mem2_len _
  obtain ⟨K1, hK1⟩ : ∃ K1, K ++ [91] = K1 := ⟨_, rfl⟩
  obtain ⟨K2, hK2⟩ : ∃ K2, K1 ++ M2 = K2 := ⟨_, rfl⟩
  obtain ⟨K3, hK3⟩ : ∃ K3, K2 ++ [93] = K3 := ⟨_, rfl⟩
  have hl1 : K1.length ≤ 7 := by rw [← hK1, List.length_append]; simp only [List.length_cons, List.length_nil]; omega
  have hl2 : K2.length ≤ 67 := by rw [← hK2, List.length_append]; omega
  have q1 : tx K ++ ({ data := #[91] } : ByteArray) = tx K1 := by rw [← hK1]; exact app1 K 91
  have q2 : tx K1 ++ tx M2 = tx K2 := by rw [← hK2]; exact tx_app K1 M2
  have q3 : tx K2 ++ ({ data := #[93] } : ByteArray) = tx K3 := by rw [← hK3]; exact app1 K2 93
  have y1 : (tx K).size + 1 ≤ 9223372036854775807 := by rw [tx_size]; omega
  have y2 : (tx K1).size + (tx M2).size ≤ 9223372036854775807 := by rw [tx_size, tx_size]; omega
  have y3 : (tx K2).size + 1 ≤ 9223372036854775807 := by rw [tx_size]; omega
  have HF := Lib.hid (show opdS ⟨3, r, b, i, s, d⟩ size = K3 by
    unfold opdS
    rw [if_neg (by decide : ¬ (3 : Int) = 4), if_neg (by decide : ¬ ((3 : Int) = 1 ∨ (3 : Int) = 2 ∨ (3 : Int) = 5)), if_pos rfl, HM2.out, hK, ← hK3, ← hK2, ← hK1]
    simp)
  clear hK hKl hMl hK1 hK2 hK3 hl1 hl2
  go_wp2_with fail
  go_ret
  exact ⟨by rw [HF.out]; rfl, below_last HO2.out.bel _⟩
theorem rimm_any (r b i s d size : Int) (d0 : 0 ≤ d) (d1 : d < 4294967296) (w : World) : Calls Tryd.prog 9 #[opV ⟨4, r, b, i, s, d⟩, .int .i64 size] w fun e w' => e = .returned (.string (tx (opdS ⟨4, r, b, i, s, d⟩ size))) ∧ Below w.heap.size w w' := by
  obtain ⟨H, hH⟩ : ∃ H, hexS d = H := ⟨_, rfl⟩
  obtain ⟨H2, hH2⟩ : ∃ H2, 48 :: 120 :: H = H2 := ⟨_, rfl⟩
  have hlH : H.length ≤ 8 := by rw [← hH]; exact hex_len 8 d
  have HX := Lib.hid (fun w => rhex_any d d0 d1 w)
  rw [hH] at HX
  have p2 : ({ data := #[48, 120] } : ByteArray) ++ tx H = tx H2 := by rw [← hH2]; exact tx_app [48, 120] H
  have y2 : 2 + (tx H).size ≤ 9223372036854775807 := by rw [tx_size]; omega
  have HF := Lib.hid (show opdS ⟨4, r, b, i, s, d⟩ size = H2 by unfold opdS; rw [if_pos rfl, hH, hH2])
  rw [HF.out]
  clear hH hH2 hlH HF
  unfold opV
  go_enter Tryd.func9, Tryd.ntmps9
  go_wp2_with fail
  ((with_reducible refine (HX.out _).mono ?_); rintro e w' ⟨rfl, rfl⟩)
  go_wp2_with fail
  go_ret
  exact ⟨rfl, below_last (Below.refl _ _) _⟩
theorem rno_any (k r b i s d size : Int) (hk : k < 1 ∨ 5 < k) (w : World) : Calls Tryd.prog 9 #[opV ⟨k, r, b, i, s, d⟩, .int .i64 size] w fun e w' => e = .returned (.string (tx (opdS ⟨k, r, b, i, s, d⟩ size))) ∧ Below w.heap.size w w' := by
  have HF := Lib.hid (show opdS ⟨k, r, b, i, s, d⟩ size = [] by unfold opdS; rw [if_neg (by show ¬ k = 4; omega), if_neg (by show ¬ (k = 1 ∨ k = 2 ∨ k = 5); omega), if_neg (by show ¬ k = 3; omega)])
  rw [HF.out]
  have e4 : (k == 4) = false := by simp; omega
  have e1 : (k == 1) = false := by simp; omega
  have e2 : (k == 2) = false := by simp; omega
  have e5 : (k == 5) = false := by simp; omega
  have e3 : (k == 3) = false := by simp; omega
  clear HF hk
  unfold opV
  go_enter Tryd.func9, Tryd.ntmps9
  go_wp2_with fail
  go_ret
  exact ⟨rfl, below_last (Below.refl _ _) _⟩
set_option maxRecDepth 512
theorem isR_in {v : Int} {B : Bool} (h : isR v = B) : Hid (∀ w : World, Calls Tryd.prog 14 #[.int .i64 v, .int .i64 0, .int .i64 7] w fun e w' => e = .returned (.bool B) ∧ w = w') := Lib.hid (rin_b h)
set_option maxRecDepth 100000
theorem rreg_any (k r b i s d size : Int) (hk : k = 1 ∨ k = 2 ∨ k = 5) (w : World) : Calls Tryd.prog 9 #[opV ⟨k, r, b, i, s, d⟩, .int .i64 size] w fun e w' => e = .returned (.string (tx (opdS ⟨k, r, b, i, s, d⟩ size))) ∧ Below w.heap.size w w' := by
  cases hr : isR r with
  | false =>
    have HF := Lib.hid (show opdS ⟨k, r, b, i, s, d⟩ size = [63] by unfold opdS; rw [if_neg (by show ¬ k = 4; omega), if_pos hk]; dsimp only; rw [hr]; rfl)
    rw [HF.out]
    have HIN := isR_in hr
    clear HF hr
    rcases hk with rfl | rfl | rfl
    all_goals
      unfold opV
      go_enter Tryd.func9, Tryd.ntmps9
      go_wp2_with fail
      ((with_reducible refine (HIN.out _).mono ?_); rintro e w' ⟨rfl, rfl⟩)
      go_wp2_with fail
      go_ret
      exact ⟨rfl, below_last (Below.refl _ _) _⟩
  | true =>
    have HIN := isR_in hr
    obtain ⟨j, rfl, hj⟩ := reg_nat hr
    have HR := Lib.hid hr
    clear hr
    rcases hk with rfl | rfl | rfl
    · have HF := Lib.hid (show opdS ⟨1, j, b, i, s, d⟩ size = regN reg4 j by unfold opdS; rw [if_neg (show ¬ (1 : Int) = 4 by decide), if_pos (.inl rfl)]; dsimp only; rw [HR.out]; rfl)
      rw [HF.out]
      unfold opV
      go_enter Tryd.func9, Tryd.ntmps9
      go_wp2_with fail
      ((with_reducible refine (HIN.out _).mono ?_); rintro e w' ⟨rfl, rfl⟩)
      go_wp2_with fail
      ((with_reducible refine (rreg32_any j hj _).mono ?_); rintro e w' ⟨rfl, hb'⟩)
      have HB := Lib.hid hb'
      clear hb'
      go_wp2_with fail
      go_ret
      exact ⟨rfl, (below_last (Below.refl _ _) _).trans (HB.out.mono (by simp))⟩
    · have HF := Lib.hid (show opdS ⟨2, j, b, i, s, d⟩ size = reg1.getD j [] by unfold opdS; rw [if_neg (show ¬ (2 : Int) = 4 by decide), if_pos (.inr (.inl rfl))]; dsimp only; rw [HR.out]; show regN reg1 (j : Int) = _; unfold regN; simp)
      rw [HF.out]
      obtain ⟨ie, hie, hz, hsz⟩ := str_info
      have HI := Lib.hid (And.intro hie (And.intro hz hsz))
      obtain ⟨S, hS⟩ : ∃ S, reg1.getD j [] = S := ⟨_, rfl⟩
      have hc := fun u : World => str_row (l := reg1) (j := j) (by simpa [reg1] using hj) u
      rw [hS] at hc ⊢
      have h8 : (j : Int) < 8 := by omega
      clear hie hz hsz HF hS
      unfold opV
      go_enter Tryd.func9, Tryd.ntmps9
      go_wp2_with fail
      ((with_reducible refine (HIN.out _).mono ?_); rintro e w' ⟨rfl, rfl⟩)
      obtain ⟨w1, hw1⟩ : ∃ w1, w1 = w.alloc (.cells #[.int .i64 2, .int .i64 j, .int .i64 b, .int .i64 i, .int .i64 s, .int .u32 d] 27) := ⟨_, rfl⟩
      rw [← hw1]
      have hk1 := heap_new hw1
      have c0 : w1.cell? ⟨w.heap.size, 0, none⟩ = some (.int .i64 2) := (cell_block hk1 0).1
      have c1 : ∀ o : Obj, (w1.alloc o).cell? ⟨w.heap.size, 1, none⟩ = some (.int .i64 j) := fun o => cell_alloc (cell_block hk1 1).1
      have c1' : w1.cell? ⟨w.heap.size, 1, none⟩ = some (.int .i64 j) := (cell_block hk1 1).1
      have HB := Lib.hid (show Below w.heap.size w w1 by rw [hw1]; exact below_last (Below.refl _ _) _)
      have hc := hc w1
      clear hw1 hk1
      go_wp2_with (refine wpList_buildSlice rfl 38 9 8 _ rfl (strA reg1) ie (.string ⟨#[]⟩) Tryd.underlying38 HI.out.1 HI.out.2.1 (by rw [HI.out.2.2]; decide) (by rw [HI.out.2.2]; decide) (by rw [HI.out.2.2]; kernel_rfl) ?_)
      go_ret
      exact ⟨rfl, below_last HB.out _⟩
    · obtain ⟨H, hH⟩ : ∃ H, hexS (j : Int) = H := ⟨_, rfl⟩
      obtain ⟨H2, hH2⟩ : ∃ H2, 120 :: 109 :: 109 :: H = H2 := ⟨_, rfl⟩
      have hlH : H.length ≤ 8 := by rw [← hH]; exact hex_len 8 j
      have HX := Lib.hid (fun w => rhex_any (j : Int) (by omega) (by omega) w)
      rw [hH] at HX
      have p2 : ({ data := #[120, 109, 109] } : ByteArray) ++ tx H = tx H2 := by rw [← hH2]; exact tx_app [120, 109, 109] H
      have y2 : 3 + (tx H).size ≤ 9223372036854775807 := by rw [tx_size]; omega
      have HF := Lib.hid (show opdS ⟨5, j, b, i, s, d⟩ size = H2 by unfold opdS; rw [if_neg (show ¬ (5 : Int) = 4 by decide), if_pos (.inr (.inr rfl))]; dsimp only; rw [HR.out, ← hH2, ← hH]; rfl)
      rw [HF.out]
      have hw : (j : Int) % 4294967296 = (j : Int) := by omega
      have hj8 : (j : Int) < 8 := by omega
      clear hH hH2 hlH HF
      unfold opV
      go_enter Tryd.func9, Tryd.ntmps9
      go_wp2_with fail
      ((with_reducible refine (HIN.out _).mono ?_); rintro e w' ⟨rfl, rfl⟩)
      go_wp2_with fail
      ((with_reducible refine (HX.out _).mono ?_); rintro e w' ⟨rfl, rfl⟩)
      go_wp2_with fail
      go_ret
      exact ⟨rfl, below_last (Below.refl _ _) _⟩
set_option maxRecDepth 512
theorem ropd_any (o : Opd) (size : Int) (d0 : 0 ≤ o.disp) (d1 : o.disp < 4294967296) (s1 : o.scale < 9223372036854775808) (w : World) : Calls Tryd.prog 9 #[opV o, .int .i64 size] w fun e w' => e = .returned (.string (tx (opdS o size))) ∧ Below w.heap.size w w' := by
  obtain ⟨k, r, b, i, s, d⟩ := o
  rcases (show k = 3 ∨ k = 4 ∨ (k = 1 ∨ k = 2 ∨ k = 5) ∨ (k < 1 ∨ 5 < k) by omega) with rfl | rfl | h | h
  · exact rmem_any r b i s d size d0 d1 s1 w
  · exact rimm_any r b i s d size d0 d1 w
  · exact rreg_any k r b i s d size h w
  · exact rno_any k r b i s d size h w
end Go.Proofs.YtgihiddiceinhaaDoor
