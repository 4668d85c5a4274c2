import Derived.Test.YtgihiddiceinhaaDoorShelf
import Derived.Test.YtgihiddiceinhaaDoorRows
import Derived.ProofKit
import Derived.OpenShut
import Derived.ChangeSame
import Derived.Lib.Hide
import Derived.RowKit
import Derived.WalkKit
import Derived.Laws.Externs
import Derived.Lib.AppendStr
import Derived.Lib.FrozenHead2
import Derived.Lib.OthersKept
import Derived.KernelRfl
import Derived.Laws.IdiomStrings
import Derived.Test.YtgihiddiceinhaaDoorKNS12
namespace Go.Proofs.YtgihiddiceinhaaDoor
open Go.ChangeShapes Go.WideShapes Go.ChangeAt Go.RowKit
def nmF (ks : List Int) (next : List UInt8) (op : Int) : List UInt8 := if op ∈ ks then opNames.getD op.toNat [] else next
def nm_doubled (op : Int) : List UInt8 := nmF [51, 52, 53, 54, 55, 56, 57, 58, 59, 60, 61] [] op
set_option maxRecDepth 100000
set_option maxHeartbeats 4000000
theorem ldoubled_any (op : Int) (w : World) : Calls Tryd.prog 60 #[.int .i64 op] w fun e w' => e = .returned (.string (tx (nm_doubled op))) ∧ w = w' := by
  by_cases h : op ∈ ([51, 52, 53, 54, 55, 56, 57, 58, 59, 60, 61] : List Int)
  · simp only [List.mem_cons, List.not_mem_nil, or_false] at h
    rcases h with rfl | rfl | rfl | rfl | rfl | rfl | rfl | rfl | rfl | rfl | rfl
    all_goals
      go_enter Tryd.func60, Tryd.ntmps60
      go_wp2_with fail
      go_ret
      exact ⟨rfl, rfl⟩
  · have hn : nm_doubled op = [] := if_neg h
    rw [hn]
    clear hn
    simp only [List.mem_cons, List.not_mem_nil, or_false, not_or] at h
    obtain ⟨n51, n52, n53, n54, n55, n56, n57, n58, n59, n60, n61⟩ := h
    have n51 : (op == 51) = false := by simpa using n51
    have n52 : (op == 52) = false := by simpa using n52
    have n53 : (op == 53) = false := by simpa using n53
    have n54 : (op == 54) = false := by simpa using n54
    have n55 : (op == 55) = false := by simpa using n55
    have n56 : (op == 56) = false := by simpa using n56
    have n57 : (op == 57) = false := by simpa using n57
    have n58 : (op == 58) = false := by simpa using n58
    have n59 : (op == 59) = false := by simpa using n59
    have n60 : (op == 60) = false := by simpa using n60
    have n61 : (op == 61) = false := by simpa using n61
    go_enter Tryd.func60, Tryd.ntmps60
    go_wp2_with fail
    go_ret
    exact ⟨rfl, rfl⟩
set_option maxRecDepth 512
def nm_bare (op : Int) : List UInt8 := nmF [37, 38, 39, 40, 41, 42, 43, 44, 45, 46, 47, 48, 49, 50] (nm_doubled op) op
set_option maxRecDepth 100000
theorem lbare_any (op : Int) (w : World) : Calls Tryd.prog 55 #[.int .i64 op] w fun e w' => e = .returned (.string (tx (nm_bare op))) ∧ w = w' := by
  by_cases h : op ∈ ([37, 38, 39, 40, 41, 42, 43, 44, 45, 46, 47, 48, 49, 50] : List Int)
  · simp only [List.mem_cons, List.not_mem_nil, or_false] at h
    rcases h with rfl | rfl | rfl | rfl | rfl | rfl | rfl | rfl | rfl | rfl | rfl | rfl | rfl | rfl
    all_goals
      go_enter Tryd.func55, Tryd.ntmps55
      go_wp2_with fail
      go_ret
      exact ⟨rfl, rfl⟩
  · have hn : nm_bare op = (nm_doubled op) := if_neg h
    rw [hn]
    clear hn
    simp only [List.mem_cons, List.not_mem_nil, or_false, not_or] at h
    obtain ⟨n37, n38, n39, n40, n41, n42, n43, n44, n45, n46, n47, n48, n49, n50⟩ := h
    have n37 : (op == 37) = false := by simpa using n37
    have n38 : (op == 38) = false := by simpa using n38
    have n39 : (op == 39) = false := by simpa using n39
    have n40 : (op == 40) = false := by simpa using n40
    have n41 : (op == 41) = false := by simpa using n41
    have n42 : (op == 42) = false := by simpa using n42
    have n43 : (op == 43) = false := by simpa using n43
    have n44 : (op == 44) = false := by simpa using n44
    have n45 : (op == 45) = false := by simpa using n45
    have n46 : (op == 46) = false := by simpa using n46
    have n47 : (op == 47) = false := by simpa using n47
    have n48 : (op == 48) = false := by simpa using n48
    have n49 : (op == 49) = false := by simpa using n49
    have n50 : (op == 50) = false := by simpa using n50
    have HN := Lib.hid (ldoubled_any op)
    go_enter Tryd.func55, Tryd.ntmps55
    go_wp2_with fail
    ((with_reducible refine (HN.out _).mono ?_); rintro e w1 ⟨rfl, rfl⟩)
    go_wp2_with fail
    go_ret
    exact ⟨rfl, rfl⟩
set_option maxRecDepth 512
def nm_moved (op : Int) : List UInt8 := nmF [18, 19, 20, 21, 22, 23, 24, 31, 32, 33, 34, 35, 36] (nm_bare op) op
set_option maxRecDepth 100000
theorem lmoved_any (op : Int) (w : World) : Calls Tryd.prog 36 #[.int .i64 op] w fun e w' => e = .returned (.string (tx (nm_moved op))) ∧ w = w' := by
  by_cases h : op ∈ ([18, 19, 20, 21, 22, 23, 24, 31, 32, 33, 34, 35, 36] : List Int)
  · simp only [List.mem_cons, List.not_mem_nil, or_false] at h
    rcases h with rfl | rfl | rfl | rfl | rfl | rfl | rfl | rfl | rfl | rfl | rfl | rfl | rfl
    all_goals
      go_enter Tryd.func36, Tryd.ntmps36
      go_wp2_with fail
      go_ret
      exact ⟨rfl, rfl⟩
  · have hn : nm_moved op = (nm_bare op) := if_neg h
    rw [hn]
    clear hn
    simp only [List.mem_cons, List.not_mem_nil, or_false, not_or] at h
    obtain ⟨n18, n19, n20, n21, n22, n23, n24, n31, n32, n33, n34, n35, n36⟩ := h
    have n18 : (op == 18) = false := by simpa using n18
    have n19 : (op == 19) = false := by simpa using n19
    have n20 : (op == 20) = false := by simpa using n20
    have n21 : (op == 21) = false := by simpa using n21
    have n22 : (op == 22) = false := by simpa using n22
    have n23 : (op == 23) = false := by simpa using n23
    have n24 : (op == 24) = false := by simpa using n24
    have n31 : (op == 31) = false := by simpa using n31
    have n32 : (op == 32) = false := by simpa using n32
    have n33 : (op == 33) = false := by simpa using n33
    have n34 : (op == 34) = false := by simpa using n34
    have n35 : (op == 35) = false := by simpa using n35
    have n36 : (op == 36) = false := by simpa using n36
    have HN := Lib.hid (lbare_any op)
    go_enter Tryd.func36, Tryd.ntmps36
    go_wp2_with fail
    ((with_reducible refine (HN.out _).mono ?_); rintro e w1 ⟨rfl, rfl⟩)
    go_wp2_with fail
    go_ret
    exact ⟨rfl, rfl⟩
set_option maxRecDepth 512
def nm_reckoned (op : Int) : List UInt8 := nmF [1, 2, 3, 4, 5, 6, 7, 8, 9, 10, 11, 12, 13, 14, 15, 16, 17, 25, 26, 27, 28, 29, 30] (nm_moved op) op
set_option maxRecDepth 100000
theorem lreckoned_any (op : Int) (w : World) : Calls Tryd.prog 13 #[.int .i64 op] w fun e w' => e = .returned (.string (tx (nm_reckoned op))) ∧ w = w' := by
  by_cases h : op ∈ ([1, 2, 3, 4, 5, 6, 7, 8, 9, 10, 11, 12, 13, 14, 15, 16, 17, 25, 26, 27, 28, 29, 30] : List Int)
  · simp only [List.mem_cons, List.not_mem_nil, or_false] at h
    rcases h with rfl | rfl | rfl | rfl | rfl | rfl | rfl | rfl | rfl | rfl | rfl | rfl | rfl | rfl | rfl | rfl | rfl | rfl | rfl | rfl | rfl | rfl | rfl
    all_goals
      go_enter Tryd.func13, Tryd.ntmps13
      go_wp2_with fail
      go_ret
      exact ⟨rfl, rfl⟩
  · have hn : nm_reckoned op = (nm_moved op) := if_neg h
    rw [hn]
    clear hn
    simp only [List.mem_cons, List.not_mem_nil, or_false, not_or] at h
    obtain ⟨n1, n2, n3, n4, n5, n6, n7, n8, n9, n10, n11, n12, n13, n14, n15, n16, n17, n25, n26, n27, n28, n29, n30⟩ := h
    have n1 : (op == 1) = false := by simpa using n1
    have n2 : (op == 2) = false := by simpa using n2
    have n3 : (op == 3) = false := by simpa using n3
    have n4 : (op == 4) = false := by simpa using n4
    have n5 : (op == 5) = false := by simpa using n5
    have n6 : (op == 6) = false := by simpa using n6
    have n7 : (op == 7) = false := by simpa using n7
    have n8 : (op == 8) = false := by simpa using n8
    have n9 : (op == 9) = false := by simpa using n9
    have n10 : (op == 10) = false := by simpa using n10
    have n11 : (op == 11) = false := by simpa using n11
    have n12 : (op == 12) = false := by simpa using n12
    have n13 : (op == 13) = false := by simpa using n13
    have n14 : (op == 14) = false := by simpa using n14
    have n15 : (op == 15) = false := by simpa using n15
    have n16 : (op == 16) = false := by simpa using n16
    have n17 : (op == 17) = false := by simpa using n17
    have n25 : (op == 25) = false := by simpa using n25
    have n26 : (op == 26) = false := by simpa using n26
    have n27 : (op == 27) = false := by simpa using n27
    have n28 : (op == 28) = false := by simpa using n28
    have n29 : (op == 29) = false := by simpa using n29
    have n30 : (op == 30) = false := by simpa using n30
    have HN := Lib.hid (lmoved_any op)
    go_enter Tryd.func13, Tryd.ntmps13
    go_wp2_with fail
    ((with_reducible refine (HN.out _).mono ?_); rintro e w1 ⟨rfl, rfl⟩)
    go_wp2_with fail
    go_ret
    exact ⟨rfl, rfl⟩
set_option maxRecDepth 512
def knS (s : List UInt8) : List UInt8 := if s.isEmpty then [63] else s
theorem lknown_any (s : List UInt8) (w : World) : Calls Tryd.prog 12 #[.string (tx s)] w fun e w' => e = .returned (.string (tx (knS s))) ∧ w = w' := by
  have ht := tx_empty s
  unfold knS
  cases hs : s.isEmpty with
  | true =>
    rw [hs] at ht
    go_enter Tryd.func12, Tryd.ntmps12
    go_wp2_with fail
    go_ret
    exact ⟨rfl, rfl⟩
  | false =>
    rw [hs] at ht
    go_enter Tryd.func12, Tryd.ntmps12
    go_wp2_with fail
    go_ret
    exact ⟨rfl, rfl⟩
theorem name_all (op : Int) : knS (nm_reckoned op) = opN op := by
  by_cases h : 0 ≤ op ∧ op ≤ 61
  · obtain ⟨n, rfl⟩ : ∃ n : Nat, op = (n : Int) := ⟨op.toNat, by omega⟩
    have hn : n < 62 := by omega
    exact (by decide : ∀ n : Nat, n < 62 → knS (nm_reckoned n) = opN n) n hn
  · have e : nm_reckoned op = [] := by
      unfold nm_reckoned nm_moved nm_bare nm_doubled nmF
      iterate 4 (rw [if_neg (by simp only [List.mem_cons, List.not_mem_nil, or_false, not_or]; omega)])
    rw [e]
    unfold opN
    rw [if_neg h]
    rfl
theorem tname_any (op : Int) (w : World) : Calls Tryd.prog 6 #[.int .i64 op] w fun e w' => e = .returned (.string (tx (opN op))) ∧ Below w.heap.size w w' := by
  have H1 := Lib.hid (lreckoned_any op)
  have H2 := fun u => lknown_any (nm_reckoned op) u
  rw [name_all] at H2
  have H2 := Lib.hid H2
  go_enter Tryd.func6, Tryd.ntmps6
  go_wp2_with fail
  ((with_reducible refine (H1.out _).mono ?_); rintro e w1 ⟨rfl, rfl⟩)
  go_wp2_with fail
  ((with_reducible refine (H2.out _).mono ?_); rintro e w1 ⟨rfl, rfl⟩)
  go_wp2_with fail
  go_ret
  exact ⟨rfl, Below.refl _ _⟩
def r4S (r : Int) : List UInt8 := if isR r then regN reg4 r else []
def r1S (r : Int) : List UInt8 := if isR r then regN reg1 r else []
def r8S (r : Int) : List UInt8 := if isR r then [120, 109, 109, hexD r] else []
theorem isR_lit {r : Int} (h : isR r = true) : r = 0 ∨ r = 1 ∨ r = 2 ∨ r = 3 ∨ r = 4 ∨ r = 5 ∨ r = 6 ∨ r = 7 := by
  unfold isR at h
  have := of_decide_eq_true h
  omega
theorem isR_not {r : Int} (h : isR r = false) : r < 0 ∨ 7 < r := by
  unfold isR at h
  have := of_decide_eq_false h
  omega
set_option maxRecDepth 100000
theorem lwhole_any (r : Int) (w : World) : Calls Tryd.prog 15 #[.int .i64 r] w fun e w' => e = .returned (.string (tx (r4S r))) ∧ w = w' := by
  cases h : isR r with
  | true =>
    rcases isR_lit h with rfl | rfl | rfl | rfl | rfl | rfl | rfl | rfl
    all_goals
      clear h
      go_enter Tryd.func15, Tryd.ntmps15
      go_wp2_with fail
      go_ret
      exact ⟨rfl, rfl⟩
  | false =>
    have e : r4S r = [] := by unfold r4S; rw [h]; rfl
    rw [e]
    have hr := isR_not h
    clear e h
    have n0 : (r == 0) = false := by simp only [beq_eq_false_iff_ne, ne_eq]; omega
    have n1 : (r == 1) = false := by simp only [beq_eq_false_iff_ne, ne_eq]; omega
    have n2 : (r == 2) = false := by simp only [beq_eq_false_iff_ne, ne_eq]; omega
    have n3 : (r == 3) = false := by simp only [beq_eq_false_iff_ne, ne_eq]; omega
    have n4 : (r == 4) = false := by simp only [beq_eq_false_iff_ne, ne_eq]; omega
    have n5 : (r == 5) = false := by simp only [beq_eq_false_iff_ne, ne_eq]; omega
    have n6 : (r == 6) = false := by simp only [beq_eq_false_iff_ne, ne_eq]; omega
    have n7 : (r == 7) = false := by simp only [beq_eq_false_iff_ne, ne_eq]; omega
    clear hr
    go_enter Tryd.func15, Tryd.ntmps15
    go_wp2_with fail
    go_ret
    exact ⟨rfl, rfl⟩
theorem llow_any (r : Int) (w : World) : Calls Tryd.prog 16 #[.int .i64 r] w fun e w' => e = .returned (.string (tx (r1S r))) ∧ w = w' := by
  cases h : isR r with
  | true =>
    rcases isR_lit h with rfl | rfl | rfl | rfl | rfl | rfl | rfl | rfl
    all_goals
      clear h
      go_enter Tryd.func16, Tryd.ntmps16
      go_wp2_with fail
      go_ret
      exact ⟨rfl, rfl⟩
  | false =>
    have e : r1S r = [] := by unfold r1S; rw [h]; rfl
    rw [e]
    have hr := isR_not h
    clear e h
    have n0 : (r == 0) = false := by simp only [beq_eq_false_iff_ne, ne_eq]; omega
    have n1 : (r == 1) = false := by simp only [beq_eq_false_iff_ne, ne_eq]; omega
    have n2 : (r == 2) = false := by simp only [beq_eq_false_iff_ne, ne_eq]; omega
    have n3 : (r == 3) = false := by simp only [beq_eq_false_iff_ne, ne_eq]; omega
    have n4 : (r == 4) = false := by simp only [beq_eq_false_iff_ne, ne_eq]; omega
    have n5 : (r == 5) = false := by simp only [beq_eq_false_iff_ne, ne_eq]; omega
    have n6 : (r == 6) = false := by simp only [beq_eq_false_iff_ne, ne_eq]; omega
    have n7 : (r == 7) = false := by simp only [beq_eq_false_iff_ne, ne_eq]; omega
    clear hr
    go_enter Tryd.func16, Tryd.ntmps16
    go_wp2_with fail
    go_ret
    exact ⟨rfl, rfl⟩
set_option maxRecDepth 512
theorem lsmall_one (v : Int) (v0 : 0 ≤ v) (v1 : v < 10) (w : World) : Calls Tryd.prog 62 #[.int .i64 v] w fun e w' => e = .returned (.string (tx [hexD v])) ∧ w = w' := by
  have hv : v = 0 ∨ v = 1 ∨ v = 2 ∨ v = 3 ∨ v = 4 ∨ v = 5 ∨ v = 6 ∨ v = 7 ∨ v = 8 ∨ v = 9 := by omega
  clear v0 v1
  rcases hv with rfl | rfl | rfl | rfl | rfl | rfl | rfl | rfl | rfl | rfl
  all_goals
    refine (Tryd.internal_strconv_small _ (by decide) w).mono ?_
    rintro e w' ⟨rfl, rfl⟩
    exact ⟨by kernel_rfl, rfl⟩
theorem lfmt_one (v : Int) (v0 : 0 ≤ v) (v1 : v < 10) (w : World) : Calls Tryd.prog 61 #[.int .i64 v, .int .i64 10] w fun e w' => e = .returned (.string (tx [hexD v])) ∧ w = w' := by
  have HS := Lib.hid (lsmall_one v v0 v1)
  have d1 : decide (0 ≤ v) = true := decide_eq_true v0
  have d2 : decide (v < 100) = true := decide_eq_true (by omega)
  go_enter Tryd.func61, Tryd.ntmps61
  go_wp2_with fail
  ((with_reducible refine (HS.out _).mono ?_); rintro e w1 ⟨rfl, rfl⟩)
  go_wp2_with fail
  go_ret
  exact ⟨rfl, rfl⟩
theorem litoa0_one (v : Int) (v0 : 0 ≤ v) (v1 : v < 10) (w : World) : Calls Tryd.prog 56 #[.int .i64 v] w fun e w' => e = .returned (.string (tx [hexD v])) ∧ w = w' := by
  have HS := Lib.hid (lfmt_one v v0 v1)
  go_enter Tryd.func56, Tryd.ntmps56
  go_wp2_with fail
  ((with_reducible refine (HS.out _).mono ?_); rintro e w1 ⟨rfl, rfl⟩)
  go_wp2_with fail
  go_ret
  exact ⟨rfl, rfl⟩
theorem litoa_one (v : Int) (v0 : 0 ≤ v) (v1 : v < 10) (w : World) : Calls Tryd.prog 37 #[.int .i64 v] w fun e w' => e = .returned (.string (tx [hexD v])) ∧ w = w' := by
  have HS := Lib.hid (litoa0_one v v0 v1)
  go_enter Tryd.func37, Tryd.ntmps37
  go_wp2_with fail
  ((with_reducible refine (HS.out _).mono ?_); rintro e w1 ⟨rfl, rfl⟩)
  go_wp2_with fail
  go_ret
  exact ⟨rfl, rfl⟩
set_option maxRecDepth 100000
theorem ldouble_any (r : Int) (w : World) : Calls Tryd.prog 17 #[.int .i64 r] w fun e w' => e = .returned (.string (tx (r8S r))) ∧ w = w' := by
  cases h : isR r with
  | true =>
    rcases isR_lit h with rfl | rfl | rfl | rfl | rfl | rfl | rfl | rfl
    all_goals
      clear h
      go_enter Tryd.func17, Tryd.ntmps17
      go_wp2_with fail
      ((with_reducible refine (litoa_one _ (by decide) (by decide) _).mono ?_); rintro e w1 ⟨rfl, rfl⟩)
      go_wp2_with fail
      go_ret
      exact ⟨rfl, rfl⟩
  | false =>
    have e : r8S r = [] := by unfold r8S; rw [h]; rfl
    rw [e]
    have hr := isR_not h
    clear e h
    have n0 : (r == 0) = false := by simp only [beq_eq_false_iff_ne, ne_eq]; omega
    have n1 : (r == 1) = false := by simp only [beq_eq_false_iff_ne, ne_eq]; omega
    have n2 : (r == 2) = false := by simp only [beq_eq_false_iff_ne, ne_eq]; omega
    have n3 : (r == 3) = false := by simp only [beq_eq_false_iff_ne, ne_eq]; omega
    have n4 : (r == 4) = false := by simp only [beq_eq_false_iff_ne, ne_eq]; omega
    have n5 : (r == 5) = false := by simp only [beq_eq_false_iff_ne, ne_eq]; omega
    have n6 : (r == 6) = false := by simp only [beq_eq_false_iff_ne, ne_eq]; omega
    have n7 : (r == 7) = false := by simp only [beq_eq_false_iff_ne, ne_eq]; omega
    clear hr
    go_enter Tryd.func17, Tryd.ntmps17
    go_wp2_with fail
    go_ret
    exact ⟨rfl, rfl⟩
theorem lwidth_any (s : Int) (w : World) : Calls Tryd.prog 38 #[.int .i64 s] w fun e w' => e = .returned (.string (tx (sizeS s))) ∧ w = w' := by
  by_cases h : s = 1 ∨ s = 2 ∨ s = 4 ∨ s = 8
  · rcases h with rfl | rfl | rfl | rfl
    all_goals
      go_enter Tryd.func38, Tryd.ntmps38
      go_wp2_with fail
      go_ret
      exact ⟨rfl, rfl⟩
  · simp only [not_or] at h
    obtain ⟨h1, h2, h4, h8⟩ := h
    have e : sizeS s = [] := by unfold sizeS; rw [if_neg h1, if_neg h2, if_neg h4, if_neg h8]
    rw [e]
    clear e
    have n1 : (s == 1) = false := by simpa using h1
    have n2 : (s == 2) = false := by simpa using h2
    have n4 : (s == 4) = false := by simpa using h4
    have n8 : (s == 8) = false := by simpa using h8
    clear h1 h2 h4 h8
    go_enter Tryd.func38, Tryd.ntmps38
    go_wp2_with fail
    go_ret
    exact ⟨rfl, rfl⟩
set_option maxRecDepth 512
theorem bld_size : (Tryd.prog.info? 57).map (·.size) = some 2 := by kernel_rfl
theorem bld_lies : liesAt Tryd.prog Tryd.prog.depth 57 (2 / Tryd.prog.cellsOf 57) 0 57 1 = true := by kernel_rfl
theorem byte_info12 : (Tryd.prog.info? 5).map (fun i => (i.zero, i.size, i.bytes)) = some (some (.int .u8 0), 1, 1) := by kernel_rfl
set_option maxRecDepth 100000
theorem bcheck_used (b : Nat) (w : World) (h0 : w.cell? ⟨b, 0, none⟩ = some (.pointer (some ⟨b, 0, none⟩))) :
    Calls Tryd.prog 53 #[.pointer (some ⟨b, 0, none⟩)] w fun e w' => e = .returned (.tuple #[]) ∧ w' = w := by
  obtain ⟨j, hj, _⟩ := Option.map_eq_some_iff.1 bld_size
  go_enter Tryd.func53, Tryd.ntmps53
  go_wp2_with fail
  rw [Lib.run_neq_ptr_same w _ Tryd.underlying55 hj]
  go_wp2_with fail
  go_end0
  exact ⟨rfl, rfl⟩
theorem bcheck_fresh (b : Nat) (w : World) (h0 : w.cell? ⟨b, 0, none⟩ = some (.pointer none)) (hsh : w.shape? b = some (57, 2)) (hfz : w.frozen? ⟨b, 0, none⟩ = false) :
    Calls Tryd.prog 53 #[.pointer (some ⟨b, 0, none⟩)] w fun e w' => e = .returned (.tuple #[]) ∧ w' = w.setCell ⟨b, 0, none⟩ (.pointer (some ⟨b, 0, none⟩)) := by
  obtain ⟨j, hj, hjs⟩ := Option.map_eq_some_iff.1 bld_size
  go_enter Tryd.func53, Tryd.ntmps53
  go_wp2_with fail
  rw [Lib.run_to_unsafe w ⟨b, 0, none⟩ Tryd.underlying55 Tryd.underlying86 hj (by rw [hjs]; decide) hsh (Nat.zero_lt_succ 1)]
  simp only [Result.andThen]
  rw [Oper.upon_value]
  go_wp2_with fail
  rw [run_callFunc_extern Tryd.func59 (by kernel_rfl) (by kernel_rfl) (by kernel_rfl) (e := Extern.AbiNoEscape.same) (by kernel_rfl)]
  rw [Lib.run_noEscape]
  simp only [Result.andThen]
  rw [Oper.upon_value]
  go_wp2_with fail
  rw [Lib.run_from_unsafe w ⟨b, 0, none⟩ Tryd.underlying86 Tryd.underlying55 hj hsh bld_lies]
  simp only [Result.andThen]
  rw [Oper.upon_value]
  go_wp2_with fail
  go_end0
  exact ⟨rfl, rfl⟩
set_option maxRecDepth 512
def Bld (b : Nat) (l : List UInt8) (w : World) : Prop := Lib.IsBuilderF 57 5 b b (Lib.byteCells l) w
abbrev Kept (b : Nat) (w w' : World) : Prop := Lib.OthersKept 5 (some b) w w'
theorem bcheck_any (b : Nat) (bs : List Value) (w : World) (h : Lib.IsBuilderF 57 5 b b bs w) :
    Calls Tryd.prog 53 #[.pointer (some ⟨b, 0, none⟩)] w fun e w' => e = .returned (.tuple #[]) ∧ Lib.BuilderAtF 57 5 b b (.pointer (some ⟨b, 0, none⟩)) bs w' ∧ Below b w w' ∧ Kept b w w' := by
  rcases h with h | h
  · refine (bcheck_fresh b w h.cell0 h.shape h.frozen0).mono ?_
    rintro e w' ⟨rfl, rfl⟩
    exact ⟨rfl, h.used _, (Below.refl b w).setCell (p := ⟨b, 0, none⟩) (Nat.le_refl _) _, (Lib.OthersKept.refl _ _ w).setCell ⟨b, 0, none⟩ rfl _⟩
  · refine (bcheck_used b w h.cell0).mono ?_
    rintro e w' ⟨rfl, rfl⟩
    exact ⟨rfl, h, Below.refl b _, Lib.OthersKept.refl _ _ _⟩
theorem strCells_mk (s : List UInt8) : Lib.strCells ⟨s.toArray⟩ = Lib.byteCells s := by simp [Lib.strCells, Lib.byteCells]
set_option maxRecDepth 100000
theorem bwrite_any (b : Nat) (l s : List UInt8) (w : World) (h : Bld b l w) (hlen : l.length + s.length ≤ 100000) :
    Calls Tryd.prog 30 #[.pointer (some ⟨b, 0, none⟩), .string ⟨s.toArray⟩] w fun e w' => e = .returned (.tuple #[.int .i64 s.length, .nilIface]) ∧ Bld b (l ++ s) w' ∧ Below b w w' ∧ Kept b w w' := by
  obtain ⟨i0, hi, hz0, hz1, hz2⟩ := info_parts byte_info12
  have hn : (Lib.byteCells l).length + (⟨s.toArray⟩ : ByteArray).size ≤ 100000 := by
    rw [Lib.byteCells_length]; exact hlen
  obtain ⟨bs, hbs⟩ : ∃ bs, bs = Lib.byteCells l := ⟨_, rfl⟩
  unfold Bld at h
  rw [← hbs] at h hn
  have HBS := Lib.hid hbs
  clear hbs
  go_enter Tryd.func30, Tryd.ntmps30
  go_wp2_with fail
  ((with_reducible refine (bcheck_any b bs _ h).mono ?_); rintro e w1 ⟨rfl, h1, hb1, hk1⟩)
  obtain ⟨hB, v, hbk, hown, hne⟩ := h1
  have c0 : w1.cell? ⟨b, 0, none⟩ = some (.pointer (some ⟨b, 0, none⟩)) := by rw [Lib.cell_of_heap hbk]; rfl
  have c1 : w1.cell? ⟨b, 1, none⟩ = some v := by rw [Lib.cell_of_heap hbk]; rfl
  have hlt : b < w1.heap.size := (Array.getElem?_eq_some_iff.1 hbk).1
  go_wp2_with (at_builtin; refine Lib.wpList_append_own_stringF _ rfl _ _ 35 9 rfl b 5 i0 Tryd.underlying35 Tryd.underlying9 hi hz0 hz1 hz2 _ _ _ rfl hown ⟨s.toArray⟩ rfl ?c3 ?c4 ?c5 ?_)
  case c3 => unfold maxLen; omega
  case c4 => omega
  case c5 => omega
  intro v' w2 hown' hgrow _
  have hb2 : w2.heap[b]? = some (.cells #[.pointer (some ⟨b, 0, none⟩), v] 57 (0, 0)) := by
    rw [hgrow.block b hlt (fun e => hne e.symm)]
    exact hbk
  have d0 : w2.cell? ⟨b, 0, none⟩ = some (.pointer (some ⟨b, 0, none⟩)) := by rw [Lib.cell_of_heap hb2]; rfl
  have d1 : w2.cell? ⟨b, 1, none⟩ = some v := by rw [Lib.cell_of_heap hb2]; rfl
  have f1 : w2.frozen? ⟨b, 1, none⟩ = false := Lib.frozen_of_heap hb2 1
  obtain ⟨ao, n', cap, rfl⟩ : ∃ ao n' cap, v' = .slice ao n' cap := by
    rcases hown'.2 with ⟨hv, _⟩ | ⟨g, cap, cur, fz, hv, _⟩
    · exact ⟨_, _, _, hv⟩
    · exact ⟨_, _, _, hv⟩
  go_wp2_with fail
  go_ret2
  refine ⟨rfl, ?_, ?_, (hk1.grown hgrow (Lib.ownsRowF_kind hown)).setCell ⟨b, 1, none⟩ rfl _⟩
  · refine .inr (Lib.BuilderAtF.put (T := 57) (e := 5) hB hb2 (bs' := Lib.byteCells (l ++ s)) ?_ (by decide))
    rw [Lib.byteCells_append, ← HBS.out]
    rw [strCells_mk] at hown'
    simpa [Lib.byteCells_length] using hown'
  · exact (hb1.grown hgrow (by omega) (fun k hk => (hown.lt k hk).1)).setCell (p := ⟨b, 1, none⟩) hB _
set_option maxRecDepth 512
theorem bread_any (b : Nat) (l : List UInt8) (w : World) (h : Bld b l w) (hb : b < w.heap.size) :
    Calls Tryd.prog 35 #[.pointer (some ⟨b, 0, none⟩)] w fun e w' => e = .returned (.string ⟨l.toArray⟩) ∧ Below b w w' :=
  (Tryd.Builder_String_any_k b b l w h (Nat.le_of_lt hb)).mono fun _ _ ⟨h1, _, h3, _⟩ => ⟨h1, h3⟩
def TabZ (w : World) : Prop := w.cell? ⟨2, 15, none⟩ = some (.int .u8 4)
theorem TabZ.lt {w : World} (h : TabZ w) : 2 < w.heap.size := by
  unfold TabZ World.cell? at h
  simp only at h
  rcases Nat.lt_or_ge 2 w.heap.size with h' | h'
  · exact h'
  · rw [Array.getElem?_eq_none h'] at h
    simp at h
theorem TabZ.on {w w' : World} (h : TabZ w) (hb : Below w.heap.size w w') : TabZ w' := (hb.cell (p := ⟨2, 15, none⟩) h.lt).trans h
theorem ltz64_16 (w : World) (hT : TabZ w) : Calls Tryd.prog 72 #[.int .u64 16] w fun e w' => e = .returned (.int .i64 4) ∧ w = w' := by
  unfold TabZ at hT
  have e1 : bits .and .u64 16 (IntKind.u64.wrap (-16)) = 16 := by kernel_rfl
  have e2 : IntKind.u64.wrap (16 * 285870213051353865) = 4573923408821661840 := by kernel_rfl
  go_enter Tryd.func72, Tryd.ntmps72
  go_wp2_with fail
  go_ret
  exact ⟨rfl, rfl⟩
theorem ltz_16 (w : World) (hT : TabZ w) : Calls Tryd.prog 70 #[.int .u64 16] w fun e w' => e = .returned (.int .i64 4) ∧ w = w' := by
  have HT := Lib.hid (ltz64_16 w hT)
  clear hT
  go_enter Tryd.func70, Tryd.ntmps70
  go_wp2_with fail
  ((with_reducible refine (HT.out).mono ?_); rintro e w1 ⟨rfl, rfl⟩)
  go_wp2_with fail
  go_ret
  exact ⟨rfl, rfl⟩
theorem lpow_16 (w : World) : Calls Tryd.prog 69 #[.int .i64 16] w fun e w' => e = .returned (.bool true) ∧ w = w' := by
  go_enter Tryd.func69, Tryd.ntmps69
  go_wp2_with fail
  go_ret
  exact ⟨rfl, rfl⟩
theorem digit_at (x : Int) (x0 : 0 ≤ x) (x1 : x < 16) (W : World) : (Instr.index 9 (.string { data := #[48, 49, 50, 51, 52, 53, 54, 55, 56, 57, 97, 98, 99, 100, 101, 102, 103, 104, 105, 106, 107, 108, 109, 110, 111, 112, 113, 114, 115, 116, 117, 118, 119, 120, 121, 122] }) (.int .u64 x)).run Tryd.prog W = .ok (.int .u8 ((hexD x).toNat : Int)) W := by
  have hv : x = 0 ∨ x = 1 ∨ x = 2 ∨ x = 3 ∨ x = 4 ∨ x = 5 ∨ x = 6 ∨ x = 7 ∨ x = 8 ∨ x = 9 ∨ x = 10 ∨ x = 11 ∨ x = 12 ∨ x = 13 ∨ x = 14 ∨ x = 15 := by omega
  rcases hv with rfl | rfl | rfl | rfl | rfl | rfl | rfl | rfl | rfl | rfl | rfl | rfl | rfl | rfl | rfl | rfl
  all_goals
    first
      | rfl
      | kernel_rfl
structure FB (v : Int) (w : World) (x : Int) (k : Nat) (wr : World) : Prop where
  ex : ∃ (n : Nat) (l : List UInt8) (C : Array Value), x < 16 ^ (n + 1) ∧ k + n = 7 ∧ l.length = k ∧ hexN (n + 1) x ++ l = hexS v ∧ wr.heap[w.heap.size]? = some (.cells C 96 (0, 0)) ∧ C.size = 65 ∧ ∀ j (h : j < l.length), C[65 - l.length + j]? = some (.int .u8 (l[j].toNat : Int))
  bel : Below w.heap.size w wr
theorem FB.start (v : Int) (w : World) (hM : v < 4294967296) (C : Array Value) (hC : C.size = 65) : FB v w v 0 (w.alloc (.cells C 96)) :=
  ⟨⟨7, [], C, by omega, rfl, rfl, by simp [hexS], by show (w.heap.push _)[w.heap.size]? = _; simp, hC, fun j h => by simp at h⟩, (Below.refl _ _).alloc (Nat.le_refl _) _⟩
theorem FB.lt {v x : Int} {w wr : World} {k : Nat} (h : FB v w x k wr) : w.heap.size < wr.heap.size := by
  obtain ⟨⟨n, l, C, _, _, _, _, hb, _⟩, _⟩ := h
  exact (Array.getElem?_eq_some_iff.1 hb).1
theorem FB.cell {v x : Int} {w wr : World} {k : Nat} (h : FB v w x k wr) (i : Nat) (hi : i < 65) : (∃ c, wr.cell? ⟨w.heap.size, i, none⟩ = some c) ∧ wr.frozen? ⟨w.heap.size, i, none⟩ = false := by
  obtain ⟨⟨n, l, C, _, _, _, _, hb, hC, _⟩, _⟩ := h
  have := cell_block hb i
  rw [Array.getElem?_eq_getElem (by omega)] at this
  exact ⟨⟨_, this.1⟩, this.2⟩
theorem FB.more {v x : Int} {w wr : World} {k : Nat} (h : FB v w x k wr) (h16 : 16 ≤ x) : k < 7 := by
  obtain ⟨⟨n, l, C, hx, hk, _⟩, _⟩ := h
  rcases n with _ | n
  · simp at hx; omega
  · omega
theorem FB.step {v x : Int} {w wr : World} {k : Nat} (h : FB v w x k wr) (h16 : 16 ≤ x) (i : Nat) (hi : i + k = 64) : FB v w (x / 16) (k + 1) (wr.setCell ⟨w.heap.size, i, none⟩ (.int .u8 ((hexD (x % 16)).toNat : Int))) := by
  obtain ⟨⟨n, l, C, hx, hk, hl, hh, hb, hC, hd⟩, hbel⟩ := h
  rcases n with _ | n
  · simp at hx; omega
  refine ⟨⟨n, hexD (x % 16) :: l, _, ?_, by omega, by simp [hl], ?_, block_setCell hb i _, by simp [hC], fun j hj => ?_⟩, hbel.setCell (p := ⟨w.heap.size, i, none⟩) (Nat.le_refl _) _⟩
  · have : (16 : Int) ^ (n + 1 + 1) = 16 ^ (n + 1) * 16 := Int.pow_succ ..
    omega
  · rw [← hh]
    have e : hexN (n + 1 + 1) x = hexN (n + 1) (x / 16) ++ [hexD (x % 16)] := by
      show (if x < 16 then _ else _) = _
      rw [if_neg (by omega)]
    rw [e]
    simp
  · simp only [List.length_cons] at hj ⊢
    rcases j with _ | j
    · rw [show 65 - (l.length + 1) + 0 = i by omega]
      simp [Array.getElem?_setIfInBounds, hC]
      omega
    · rw [show 65 - (l.length + 1) + (j + 1) = 65 - l.length + j by omega, Array.getElem?_setIfInBounds, if_neg (by omega)]
      simpa using hd j (by omega)
theorem FB.last {v x : Int} {w wr : World} {k : Nat} (h : FB v w x k wr) (h16 : x < 16) (i : Nat) (hi : i + k = 64) :
    (hexS v).length = k + 1 ∧ ∀ j (hj : j < (hexS v).length), (wr.setCell ⟨w.heap.size, i, none⟩ (.int .u8 ((hexD x).toNat : Int))).cell? ((⟨w.heap.size, i, none⟩ : Addr).add j) = some (.int .u8 ((hexS v)[j].toNat : Int)) := by
  obtain ⟨⟨n, l, C, hx, hk, hl, hh, hb, hC, hd⟩, hbel⟩ := h
  have e : hexN (n + 1) x = [hexD x] := by
    show (if x < 16 then _ else _) = _
    rw [if_pos h16]
  rw [e] at hh
  have hs : hexS v = hexD x :: l := hh.symm
  rw [hs]
  refine ⟨by simp [hl], fun j hj => ?_⟩
  rw [addr_add, (cell_block (block_setCell hb i _) (i + j)).1]
  rcases j with _ | j
  · simp [Array.getElem?_setIfInBounds, hC]
    omega
  · rw [Array.getElem?_setIfInBounds, if_neg (by omega), show i + (j + 1) = 65 - l.length + j by omega]
    simpa using hd j (by simpa using hj)
theorem zero65 (W : World) : (zeroValue 96).run Tryd.prog W = .ok (.agg (Array.replicate 65 (.int .u8 0))) W := by kernel_rfl
theorem and_15u (x : Int) (h0 : 0 ≤ x) (h1 : x < 18446744073709551616) : bits .and .u64 x 15 = x % 16 := by
  rw [u64_and x 15 h0 h1 (by decide) (by decide), show (15 : Int).toNat = 15 from rfl, nat_mask4]
  omega
set_option maxRecDepth 100000
theorem lbits_16 (v : Int) (h0 : 0 ≤ v) (hM : v < 4294967296) (w : World) (hT : TabZ w) : Calls Tryd.prog 65 #[.slice none 0 0, .int .u64 v, .int .i64 16, .bool false, .bool false] w fun e w' => e = .returned (.tuple #[.slice none 0 0, .string (tx (hexS v))]) ∧ Below w.heap.size w w' := by
  have HZ := Lib.hid zero65
  have HP := Lib.hid lpow_16
  obtain ⟨C, hC⟩ : ∃ C : Array Value, C = Array.replicate 65 (.int .u8 0) := ⟨_, rfl⟩
  have hz : ∀ W, (zeroValue 96).run Tryd.prog W = .ok (.agg C) W := fun W => by rw [hC]; exact zero65 W
  have HS := Lib.hid (FB.start v w hM C (by rw [hC]; simp))
  have HT := Lib.hid (ltz_16 (w.alloc (.cells C 96)) (hT.on ((Below.refl _ _).alloc (Nat.le_refl _) _)))
  clear hC hT
  go_enter Tryd.func65, Tryd.ntmps65
  go_wp2_with fail
  ((with_reducible refine (HP.out _).mono ?_); rintro e w1 ⟨rfl, rfl⟩)
  go_wp2_with fail
  ((with_reducible refine (HT.out).mono ?_); rintro e w1 ⟨rfl, rfl⟩)
  clear HT
  obtain ⟨wS, hwS⟩ : ∃ wS, wS = w.alloc (.cells C 96) := ⟨_, rfl⟩
  rw [← hwS] at HS ⊢
  clear hwS hz
  go_wp2_with fail
  go_loopw [1, 13] (fun v1 v13 wr => ∃ (x : Int) (i k : Nat), v1 = .int .u64 x ∧ v13 = .int .i64 i ∧ i + k = 65 ∧ k ≤ 7 ∧ (0 ≤ x ∧ x < 4294967296) ∧ FB v w x k wr) (fun v1 _ _ => (intOf v1).toNat)
  case atStart => exact ⟨v, 65, 0, rfl, rfl, rfl, by omega, ⟨h0, hM⟩, HS.out⟩
  case round =>
    obtain ⟨x, i, k, rfl, rfl, hik, hk, ⟨x0, x1⟩, hfb⟩ := hrel
    obtain ⟨i, rfl⟩ : ∃ n, i = n + 1 := ⟨i - 1, by omega⟩
    obtain ⟨⟨c, hc⟩, hf⟩ := hfb.cell i (by omega)
    have hlt := hfb.lt
    have HFB := Lib.hid hfb
    have HIK := Lib.hid hik
    have hi64 : i ≤ 64 := by omega
    by_cases h16 : 16 ≤ x
    · have d : decide (16 ≤ x) = true := decide_eq_true h16
      have hand := and_15u x x0 (by omega)
      have HD := Lib.hid (fun W => digit_at (x % 16) (by omega) (by omega) W)
      have hd := HD.out
      have HK := Lib.hid (hfb.more h16)
      have HN := Lib.hid (hfb.step h16 i (by omega))
      clear hfb hik h16
      go_wp2_with fail
      go_roundw
      case rel =>
        have := HIK.out
        have := HK.out
        exact ⟨x / 16, i, k + 1, rfl, rfl, by omega, by omega, by omega, HN.out⟩
      case measure =>
        have := of_decide_eq_true d
        simp [intOf]; omega
    · have d : decide (16 ≤ x) = false := decide_eq_false h16
      have HD := Lib.hid (fun W => digit_at x (by omega) (by omega) W)
      have hd := HD.out
      obtain ⟨hlen, hlast⟩ := hfb.last (by omega) i (by omega)
      have HLEN := Lib.hid hlen
      have HLAST := Lib.hid hlast
      have hal : Tryd.prog.arrayLen 96 = 65 := by kernel_rfl
      have hsl : ∀ W, (Instr.sliceAt 96 (.pointer (some ⟨w.heap.size, 0, none⟩)) (some (.int .i64 i)) none none).run Tryd.prog W = .ok (.slice (some ⟨w.heap.size, i, none⟩) (hexS v).length (hexS v).length) W := fun W => by
        rw [run_sliceAt_array_l W 96 ⟨w.heap.size, 0, none⟩ (by simp [Program.arrayLen, Program.elem, Tryd.underlying96]) .i64 (i : Int) (by omega) (by rw [hal]; omega)]
        rw [hlen]
        go_simp
        omega
      have hcv : (convert 35 9 (.slice (some ⟨w.heap.size, i, none⟩) (hexS v).length (hexS v).length)).run Tryd.prog (wr.setCell ⟨w.heap.size, i, none⟩ (.int .u8 ((hexD x).toNat : Int))) = .ok (.string (tx (hexS v))) (wr.setCell ⟨w.heap.size, i, none⟩ (.int .u8 ((hexD x).toNat : Int))) :=
        run_convert_bytes_back (P := Tryd.prog) _ 35 9 5 ⟨w.heap.size, i, none⟩ (hexS v).length (hexS v) Tryd.underlying35 Tryd.underlying5 Tryd.underlying9 hlast
      have HBEL := Lib.hid (hfb.bel.setCell (p := ⟨w.heap.size, i, none⟩) (Nat.le_refl _) (.int .u8 ((hexD x).toNat : Int)))
      clear hfb hik h16 hlen hlast hal
      go_wp2_with fail
      go_ret2
      exact ⟨rfl, HBEL.out⟩
set_option maxRecDepth 512
theorem lfmtu0_16 (v : Int) (h0 : 0 ≤ v) (hM : v < 4294967296) (w : World) (hT : TabZ w) : Calls Tryd.prog 57 #[.int .u64 v, .int .i64 16] w fun e w' => e = .returned (.string (tx (hexS v))) ∧ Below w.heap.size w w' := by
  have HB := Lib.hid (lbits_16 v h0 hM w hT)
  clear hT
  go_enter Tryd.func57, Tryd.ntmps57
  go_wp2_with fail
  ((with_reducible refine (HB.out).mono ?_); rintro e w1 ⟨rfl, b1⟩)
  have HB1 := Lib.hid b1
  clear b1
  go_wp2_with fail
  go_ret
  exact ⟨rfl, HB1.out⟩
theorem lfmtu_16 (v : Int) (h0 : 0 ≤ v) (hM : v < 4294967296) (w : World) (hT : TabZ w) : Calls Tryd.prog 41 #[.int .u64 v, .int .i64 16] w fun e w' => e = .returned (.string (tx (hexS v))) ∧ Below w.heap.size w w' := by
  have HB := Lib.hid (lfmtu0_16 v h0 hM w hT)
  clear hT
  go_enter Tryd.func41, Tryd.ntmps41
  go_wp2_with fail
  ((with_reducible refine (HB.out).mono ?_); rintro e w1 ⟨rfl, b1⟩)
  have HB1 := Lib.hid b1
  clear b1
  go_wp2_with fail
  go_ret
  exact ⟨rfl, HB1.out⟩
def hexT (v : Int) : List UInt8 := 48 :: 120 :: hexS v
theorem lnumber_any (v : Int) (h0 : 0 ≤ v) (hM : v < 4294967296) (w : World) (hT : TabZ w) : Calls Tryd.prog 19 #[.int .u32 v] w fun e w' => e = .returned (.string (tx (hexT v))) ∧ Below w.heap.size w w' := by
  have HB := Lib.hid (lfmtu_16 v h0 hM w hT)
  have HA := Lib.hid (show ({ data := #[48, 120] } : ByteArray) ++ tx (hexS v) = tx (hexT v) from tx_app [48, 120] (hexS v))
  have hsz : (tx (hexS v)).size ≤ 8 := by rw [tx_size]; exact hex_len 8 v
  clear hT
  go_enter Tryd.func19, Tryd.ntmps19
  go_wp2_with fail
  ((with_reducible refine (HB.out).mono ?_); rintro e w1 ⟨rfl, b1⟩)
  have HB1 := Lib.hid b1
  clear b1
  have ha := HA.out
  go_wp2_with fail
  go_ret
  exact ⟨rfl, HB1.out⟩
def joinS (btw : List UInt8) : List UInt8 → List (List UInt8) → List UInt8
  | _, [] => []
  | m, p :: r => if p.isEmpty then joinS btw m r else m ++ (p ++ joinS btw btw r)
def PR (P : Nat) (ps : List (List UInt8)) (w : World) : Prop := w.heap[P]? = some (.cells (strA ps) 9 (0, 0))
theorem PR.kept {P b : Nat} {ps : List (List UInt8)} {w w' : World} (h : PR P ps w) (hk : Kept b w w') (hne : P ≠ b) : PR P ps w' :=
  hk P _ h (fun e => hne (Option.some.inj e)) (fun c fz e => by injection e with _ e _; exact absurd e (by decide))
theorem PR.at_ {P : Nat} {ps : List (List UInt8)} {w : World} (h : PR P ps w) (k : Nat) (hk : k < ps.length) : w.cell? ⟨P, k, none⟩ = some (.string (tx ps[k])) := by
  rw [(cell_block h k).1]
  simp [strA, hk]
def TellS (b : Nat) (ps : List (List UInt8)) (btw tot : List UInt8) (k : Nat) (m : List UInt8) (wr : World) : Prop := ∃ l, Bld b l wr ∧ l ++ joinS btw m (ps.drop k) = tot
theorem TellS.skip {b k : Nat} {ps : List (List UInt8)} {btw tot m : List UInt8} {wr : World} (h : TellS b ps btw tot k m wr) (hk : k < ps.length) (he : ps[k].isEmpty = true) : TellS b ps btw tot (k + 1) m wr := by
  obtain ⟨l, hb, hl⟩ := h
  refine ⟨l, hb, ?_⟩
  rw [List.drop_eq_getElem_cons hk, joinS, if_pos he] at hl
  exact hl
theorem TellS.open {b k : Nat} {ps : List (List UInt8)} {btw tot m : List UInt8} {wr : World} (h : TellS b ps btw tot k m wr) (hk : k < ps.length) (he : ps[k].isEmpty = false) :
    ∃ l, Bld b l wr ∧ l.length + m.length + ps[k].length ≤ tot.length ∧ (l ++ m ++ ps[k]) ++ joinS btw btw (ps.drop (k + 1)) = tot := by
  obtain ⟨l, hb, hl⟩ := h
  rw [List.drop_eq_getElem_cons hk, joinS, he, if_neg (by decide)] at hl
  refine ⟨l, hb, ?_, ?_⟩
  · rw [← hl]; simp only [List.length_append]; omega
  · rw [← hl]; simp only [List.append_assoc]
theorem bwrite_tx (b : Nat) (l s : List UInt8) (w : World) (h : Bld b l w) (hlen : l.length + s.length ≤ 100000) :
    Calls Tryd.prog 30 #[.pointer (some ⟨b, 0, none⟩), .string (tx s)] w fun e w' => e = .returned (.tuple #[.int .i64 s.length, .nilIface]) ∧ Bld b (l ++ s) w' ∧ Below b w w' ∧ Kept b w w' := bwrite_any b l s w h hlen
theorem bread_tx (b : Nat) (l : List UInt8) (w : World) (h : Bld b l w) (hb : b < w.heap.size) :
    Calls Tryd.prog 35 #[.pointer (some ⟨b, 0, none⟩)] w fun e w' => e = .returned (.string (tx l)) ∧ Below b w w' := bread_any b l w h hb
set_option maxRecDepth 100000
theorem ltell_any (b P : Nat) (l m btw : List UInt8) (ps : List (List UInt8)) (w : World) (hB : Bld b l w) (hP : PR P ps w) (hne : P ≠ b) (hn : ps.length ≤ 100) (hlen : (l ++ joinS btw m ps).length ≤ 50000) :
    Calls Tryd.prog 33 #[.pointer (some ⟨b, 0, none⟩), .string (tx m), .string (tx btw), .slice (some ⟨P, 0, none⟩) ps.length ps.length] w fun e w' => e = .returned (.tuple #[]) ∧ Bld b (l ++ joinS btw m ps) w' ∧ Below b w w' ∧ Kept b w w' := by
  obtain ⟨tot, htot⟩ : ∃ tot, tot = l ++ joinS btw m ps := ⟨_, rfl⟩
  rw [← htot] at hlen ⊢
  have HS := Lib.hid (show TellS b ps btw tot 0 m w from ⟨l, hB, by rw [htot]; rfl⟩)
  have HP := Lib.hid hP
  obtain ⟨n, hN⟩ : ∃ n, n = ps.length := ⟨_, rfl⟩
  rw [← hN] at hn ⊢
  have HN := Lib.hid hN
  clear htot hB hP hN
  go_enter Tryd.func33, Tryd.ntmps33
  go_wp2_with fail
  go_loopw [8, 14] (fun v8 v14 wr => ∃ (k : Nat) (m : List UInt8), k ≤ n ∧ v8 = .string (tx m) ∧ v14 = .int .i64 k ∧ TellS b ps btw tot k m wr ∧ Below b w wr ∧ Kept b w wr) (fun _ v14 _ => n - (intOf v14).toNat)
  case atStart => exact ⟨0, m, by omega, rfl, rfl, HS.out, Below.refl _ _, Lib.OthersKept.refl _ _ _⟩
  case round =>
    obtain ⟨k, m, hk, rfl, rfl, hS, hb, hkept⟩ := hrel
    by_cases hlt : k < n
    · have d : decide ((k : Int) < (n : Int)) = true := decide_eq_true (by omega)
      have hkp : k < ps.length := by rw [← HN.out]; exact hlt
      obtain ⟨p, hp⟩ : ∃ p, p = ps[k] := ⟨_, rfl⟩
      have hcell := (HP.out.kept hkept hne).at_ k hkp
      rw [← hp] at hcell
      have ht := tx_empty p
      cases he : p.isEmpty with
      | true =>
        rw [he] at ht
        have H1 := Lib.hid (hS.skip hkp (by rw [← hp]; exact he))
        have H2 := Lib.hid hb
        have H3 := Lib.hid hkept
        clear hS hb hkept hkp hp he
        go_wp2_with fail
        go_roundw
        case rel => exact ⟨k + 1, m, by omega, rfl, by go_num, H1.out, H2.out, H3.out⟩
        case measure => simp [intOf]; omega
      | false =>
        rw [he] at ht
        obtain ⟨l, hbl, hll, hlt2⟩ := hS.open hkp (by rw [← hp]; exact he)
        rw [← hp] at hll hlt2
        have H2 := Lib.hid hb
        have H3 := Lib.hid hkept
        have H4 := Lib.hid hlt2
        clear hS hb hkept hkp hp he hlt2
        go_wp2_with fail
        ((with_reducible refine (bwrite_tx b l m _ hbl (by omega)).mono ?_); rintro e w1 ⟨rfl, hb1, c1, k1⟩)
        have H5 := Lib.hid (H2.out.trans c1)
        have H6 := Lib.hid (H3.out.trans k1)
        have hl1 : (l ++ m).length + p.length ≤ 100000 := by simp only [List.length_append]; omega
        clear c1 k1
        go_wp2_with fail
        ((with_reducible refine (bwrite_tx b (l ++ m) p _ hb1 hl1).mono ?_); rintro e w2 ⟨rfl, hb2, c2, k2⟩)
        have H7 := Lib.hid (H5.out.trans c2)
        have H8 := Lib.hid (H6.out.trans k2)
        have H9 := Lib.hid (show TellS b ps btw tot (k + 1) btw w2 from ⟨_, hb2, H4.out⟩)
        clear c2 k2 hb2 hb1 hl1
        go_wp2_with fail
        go_roundw
        case rel => exact ⟨k + 1, btw, by omega, rfl, by go_num, H9.out, H7.out, H8.out⟩
        case measure => simp [intOf]; omega
    · have d : decide ((k : Int) < (n : Int)) = false := decide_eq_false (by omega)
      obtain rfl : k = n := by omega
      have H1 : Hid (Bld b tot wr) := Lib.hid (by
        obtain ⟨l, hb, hl⟩ := hS
        rw [HN.out, List.drop_length, joinS, List.append_nil] at hl
        rw [← hl]
        exact hb)
      have H2 := Lib.hid hb
      have H3 := Lib.hid hkept
      clear hS hb hkept
      go_wp2_with fail
      go_end0
      exact ⟨rfl, H1.out, H2.out, H3.out⟩
end Go.Proofs.YtgihiddiceinhaaDoor
