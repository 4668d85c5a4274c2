/- The pages of places, as the statement's own help tells them. -/
import Derived.Test.YtglcbhfkoigedaaPlaysA
import Derived.LoopTactic
namespace Go.Proofs.Ytglcbhfkoigedaa
open Go.ChangeShapes Go.WideShapes Go.ChangeAt Go.RowKit

/-- append of nothing, as a step of a region that draws -/
theorem step_append_empty {P : Program} {ops : Array Oper} {o : Oper} {a : Act} {w : World} {K : Act → World → Prop} {Q : Exit → Act → World → Prop} {E : Prop}
    (hg : o.guard = none) (s x : Operand) (t : TypeId) (hop : o.op = Op.call { callee := Callee.builtin Builtin.append, args := #[s, x], argTypes := #[t, t] })
    (e : TypeId) (i : TypeInfo) (h1 : P.underlying t = some (.slice e)) (h2 : P.info? e = some i)
    (ad : Addr) (n cap : Nat) (hn : n ≤ cap) (hs : a.eval s = .slice (some ad) n cap) (A : Option Addr) (c : Nat) (hx : a.eval x = .slice A 0 c)
    (hK : K (a.put o.dst (.slice (some ad) n cap)) w) :
    if Region.wanted o (yielded ops a.tmps) = true then Oper.wp P o a w K Q else E := by
  have hw : Region.wanted o (yielded ops a.tmps) = true := by simp [Region.wanted, hg]
  rw [if_pos hw]
  have hrun : (Builtin.append_ #[t, t] o.type #[.slice (some ad) n cap, .slice A 0 c]).run P w = .ok (.slice (some ad) n cap) w := by
    cases A <;> simp [Builtin.append_, run_underlying h1, sizeOf, typeInfo, h2, Builtin.lenOf, Builtin.firstCells, hn, storeCells, loadCells, loadCellsFrom]
  unfold Oper.wp
  simp [execOp, hop, resolve, invoke, builtin, hs, hx, hrun, Result.andThen]
  exact hK

/-- a row of numbers, whole, behind an address -/
def RowAt (w : World) (a : Addr) (l : List Int) : Prop := ∀ j u, (l.map (Value.int .u32))[j]? = some u → w.cell? (a.add j) = some u
theorem RowAt.keep {w w' : World} {a : Addr} {l : List Int} (h : RowAt w a l) (hb : ∀ p x, p.block = a.block → w.cell? p = some x → w'.cell? p = some x) : RowAt w' a l :=
  fun j u hu => hb _ _ (add_block a j) (h j u hu)
theorem RowAt.below {w w' : World} {a : Addr} {l : List Int} (h : RowAt w a l) (hb : Below w.heap.size w w') : RowAt w' a l := h.keep fun _ _ _ hc => cell_call hb hc
theorem RowAt.alloc_drew {w : World} {a : Addr} {l : List Int} (h : RowAt w a l) (o : Obj) : RowAt (w.alloc o).drew a l := h.keep fun p x _ hc => by
  have := cell_call (below_last (Below.refl _ w) o) hc
  exact this
theorem RowAt.take {w : World} {a : Addr} {l : List Int} (h : RowAt w a l) (k : Nat) : RowAt w a (l.take k) := fun j u hu => h j u (by
  rw [List.map_take, List.getElem?_take] at hu
  split at hu
  · exact hu
  · cases hu)
theorem RowAt.drop {w : World} {a : Addr} {l : List Int} (h : RowAt w a l) (k : Nat) : RowAt w (a.add k) (l.drop k) := fun j u hu => by
  have e : (a.add k).add j = a.add (k + j) := by
    unfold Addr.add
    by_cases hk : k = 0 <;> by_cases hj : j = 0 <;> simp [hk, hj, Nat.add_assoc]
  rw [e]
  exact h (k + j) u (by rw [List.map_drop, List.getElem?_drop] at hu; exact hu)
theorem RowAt.drop0 {w : World} {g : Nat} {l : List Int} (h : RowAt w ⟨g, 0, none⟩ l) (k : Nat) : RowAt w ⟨g, k, none⟩ (l.drop k) := by
  have e : (⟨g, 0, none⟩ : Addr).add k = ⟨g, k, none⟩ := by unfold Addr.add; split <;> simp_all
  rw [← e]
  exact h.drop k
theorem RowAt.at_ {w : World} {a : Addr} {l : List Int} (h : RowAt w a l) (j : Nat) (hj : j < l.length) : w.cell? (a.add j) = some (.int .u32 (l.getD j 0)) := h j _ (by simp [List.getD, List.getElem?_eq_getElem hj])
theorem RowAt.own {w : World} {base : Nat} {e : TypeId} {g n cap : Nat} {l : List Int} {v : Value} (h : w.ownsRow base e 1 v n (l.map (Value.int .u32))) (hv : v = .slice (some ⟨g, 0, none⟩) n cap) : RowAt w ⟨g, 0, none⟩ l := fun j u hu => h.cells (g := g) (by rw [hv]; rfl) j u hu
/-- v is these numbers, of new memory -/
def OutIs (B : Nat) (w : World) (v : Value) (l : List Int) : Prop := (l = [] ∧ v = .slice none 0 0) ∨ (l ≠ [] ∧ ∃ g cap, v = .slice (some ⟨g, 0, none⟩) l.length cap ∧ l.length ≤ cap ∧ B ≤ g ∧ RowAt w ⟨g, 0, none⟩ l)
theorem out_own {B base n : Nat} {w : World} {v : Value} {l : List Int} (h : w.ownsRow base 29 1 v n (l.map (Value.int .u32))) (hne : l ≠ []) (hB : B ≤ base) : OutIs B w v l := by
  have hn : n = l.length := by have := h.1; simp at this; omega
  subst hn
  have hp : 0 < l.length := List.length_pos_iff.2 hne
  obtain ⟨g, cap, hv, hg, _⟩ := h.form hp
  refine .inr ⟨hne, g, cap, hv, ?_, by omega, RowAt.own h hv⟩
  rcases h.2 with ⟨_, h0⟩ | ⟨g', cap', cur, hv', _, _, hc, _⟩
  · omega
  · rw [hv] at hv'
    injection hv' with _ _ hv'
    omega
theorem OutIs.slc {B : Nat} {w : World} {v : Value} {l : List Int} (h : OutIs B w v l) : Slc .u32 w v l.length (fun i => l.getD i 0) := by
  rcases h with ⟨rfl, rfl⟩ | ⟨_, g, cap, rfl, hc, _, hr⟩
  · exact .inl ⟨rfl, rfl⟩
  · exact .inr ⟨_, _, rfl, hc, fun i hi => hr.at_ i hi⟩
theorem u32_info : (Try.prog.info? 29).map (fun i => (i.zero, i.size, i.bytes)) = some (some (.int .u32 0), 1, 4) := by kernel_rfl
theorem oneCell_u32 (l : List Int) : ∀ u ∈ l.map (Value.int .u32), u.oneCell' = true := by
  intro u hu
  obtain ⟨a, _, rfl⟩ := List.mem_map.1 hu
  rfl
set_option maxRecDepth 100000 in
set_option maxHeartbeats 4000000 in
theorem rpages_any (pm v : Value) (ats : List Int) (hb : ∀ a ∈ ats, 0 ≤ a ∧ a < 4294967296) (hL : ats.length < 1000000) (w : World) (hs : Slc .u32 w v ats.length (fun i => ats.getD i 0)) :
    Calls Try.prog 18 #[pm, v] w fun e w' => ∃ (u : Value) (l : List Int), e = .returned u ∧ Slc .u32 w' u l.length (fun i => l.getD i 0) ∧ IsPages (pgsL ats) l ∧ l.length ≤ ats.length ∧ Below w.heap.size w w' := by
  obtain ⟨i0, hi, hz0, hz1, hz2⟩ := info_parts u32_info
  obtain ⟨A, c, rfl⟩ := hs.len
  obtain ⟨N, hN⟩ : ∃ N, ats.length = N := ⟨_, rfl⟩
  have hs' : ∀ i, i < N → ∃ ad, A = some ad ∧ ad.block < w.heap.size ∧ w.cell? (ad.add i) = some (.int .u32 (ats.getD i 0)) := fun i hi => by
    rcases hs with ⟨_, h⟩ | ⟨ad, c', he, _, hc⟩
    · omega
    · injection he with he _ _
      exact ⟨ad, he, by have := cell_lt (hc i (by omega)); rw [add_block] at this; exact this, hc i (by omega)⟩
  have HS := Lib.hid hs'
  have HN := Lib.hid hN
  rw [hN] at hL ⊢
  clear hs hs' hN
  go_enter Try.func18, Try.ntmps18
  go_wp2
  go_loopw [5, 6] (fun v i wr => ∃ (k : Nat) (l : List Int), k ≤ N ∧ i = .int .i64 k ∧ l.length ≤ k ∧ IsPages (pgsL (ats.take k)) l ∧ (∀ q ∈ l, 0 ≤ q ∧ q < 4294967296) ∧ OutIs w.heap.size wr v l ∧ Below w.heap.size w wr) (fun _ i _ => N - (intOf i).toNat)
  case atStart => exact ⟨0, [], by omega, rfl, by simp, isPages_nil, by simp, .inl ⟨rfl, rfl⟩, Below.refl _ _⟩
  case round =>
    obtain ⟨k, l, hk, rfl, hlk, hP, hq, hO, hB⟩ := hrel
    obtain ⟨wo, rfl⟩ : ∃ wo : World, wo = wr := ⟨_, rfl⟩
    by_cases hlt : k < N
    · have hd : decide ((k : Int) < (N : Int)) = true := decide_eq_true (by omega)
      obtain ⟨ad, hA, hadl, hc⟩ := HS.out k hlt
      have hx := hb (ats.getD k 0) (by rw [getD_lt (by rw [HN.out]; exact hlt)]; exact List.getElem_mem _)
      have hsn : pgsL (ats.take (k + 1)) = setP (pgsL (ats.take k)) (ats.getD k 0) := by
        rw [← pgsL_snoc, List.take_succ_eq_append_getElem (by rw [HN.out]; exact hlt), getD_lt (by rw [HN.out]; exact hlt)]
      generalize ats.getD k 0 = x at *
      obtain ⟨x0, x1⟩ := hx
      have hpb := page_bits x x0 x1
      obtain ⟨P, hP'⟩ : ∃ P, x / 4096 * 4096 = P := ⟨_, rfl⟩
      have hP0 : 0 ≤ P := by omega
      have hP1 : P < 4294967296 := by omega
      have hc2 : wo.cell? (ad.add k) = some (.int .u32 x) := by rw [hB.cell (by rw [add_block]; exact hadl)]; exact hc
      rw [hP'] at hpb
      subst hA
      have hSN := Lib.hid hsn
      have hPE := Lib.hid hP'
      clear hc hsn hP'
      rcases hO with ⟨rfl, rfl⟩ | ⟨hne, g, cap, rfl, hcap, hg, hrow⟩
      · go_wp2
        go_loop [8] (fun x => x = .int .i64 0) (fun _ => 0)
        case atStart => rfl
        case round =>
          subst hrel
          go_wp2
          go_region_law (first
            | (refine step_append_empty rfl (.tmp 51) (.tmp 54) _ rfl 29 i0 Try.underlying28 hi ⟨wo.heap.size, 0, none⟩ 1 1 (Nat.le_refl _) (by simp [Act.eval]) none 0 (by simp [Act.eval]) ?_)
            | (refine step_append_grows rfl (.tmp 49) (.tmp 55) _ rfl 29 i0 (.int .u32 0) 1 4 Try.underlying28 hi hz0 hz1 hz2 rfl (by decide) none 0 0 [] (by simp [Act.eval]) (by intro _; exact ⟨rfl, rfl⟩) rfl (by intro _ h; cases h) ⟨wo.heap.size, 0, none⟩ 1 1 [.int .u32 P] (by simp [Act.eval]) rfl (by intro j u hu; match j, hu with | 0, hu => (simp at hu; subst hu; simp [Addr.add])) (by simp [Value.oneCell']) (by omega) (by unfold maxLen; omega) (by omega) ?_; intro v' w1 hown hgrow))
          have hbw : Below w.heap.size w w1 := (((hB.alloc hB.size _).drew).grown hgrow (by have := hB.size; simp; omega) (by intro _ h; cases h))
          have hout : OutIs w.heap.size w1 v' [P] := out_own (n := 0 + 1) (by simpa using hown) (by simp) (by have := hB.size; simp; omega)
          clear hown hgrow
          go_wp2
          go_roundw
          case rel => exact ⟨k + 1, [P], by omega, by go_num, by simp, by
            rw [hSN.out]
            have h2 := isPages_ins hP 0 x (by intro j hj; omega) (by intro h; simp at h)
            rw [hPE.out] at h2
            exact h2, by simp; omega, hout, hbw⟩
          case measure => simp [intOf]; omega
      · have hLp : 0 < l.length := List.length_pos_iff.2 hne
        obtain ⟨L, hLL⟩ : ∃ L, l.length = L := ⟨_, rfl⟩
        have hrow' := Lib.hid hrow
        have hat : ∀ j, j < L → wo.cell? ⟨g, j, none⟩ = some (.int .u32 (l.getD j 0)) := fun j hj => by
          have := hrow.at_ j (by omega)
          rwa [show (⟨g, 0, none⟩ : Addr).add j = ⟨g, j, none⟩ by unfold Addr.add; split <;> simp_all] at this
        have HAT := Lib.hid hat
        have HLL := Lib.hid hLL
        have HB := Lib.hid hB
        have hgl : g < wo.heap.size := by
          have := cell_lt (hat 0 (by omega)); exact this
        have hB0 := hB.size
        rw [hLL] at hcap hLp hlk ⊢
        clear hLL hat hrow hB
        go_wp2
        go_loop [8] (fun x => ∃ j : Nat, j ≤ L ∧ x = .int .i64 j ∧ ∀ i, i < j → l.getD i 0 < P) (fun x => L - (intOf x).toNat)
        case atStart => exact ⟨0, by omega, rfl, by intro i hi; omega⟩
        case round =>
          obtain ⟨j, hj, rfl, hless⟩ := hrel
          have HLS := Lib.hid hless
          clear hless
          by_cases hjL : j < L
          · have hcj := HAT.out j hjL
            obtain ⟨y, hy⟩ : ∃ y, l.getD j 0 = y := ⟨_, rfl⟩
            rw [hy] at hcj
            have hyb := hq y (by rw [← hy, getD_lt (by rw [HLL.out]; exact hjL)]; exact List.getElem_mem _)
            have HY := Lib.hid hy
            clear hy
            obtain ⟨y0, y1⟩ := hyb
            have hd2 : decide ((j : Int) < (L : Int)) = true := decide_eq_true (by omega)
            by_cases hyP : y < P
            · have hd3 : decide (y < P) = true := decide_eq_true hyP
              go_wp2
              exact ⟨⟨j + 1, by omega, by go_num, fun i hi => by
                by_cases e : i = j
                · subst e; rw [HY.out]; exact hyP
                · exact HLS.out i (by omega)⟩, by simp [intOf]; omega⟩
            · have hd3 : decide (y < P) = false := decide_eq_false hyP
              have hd4 : ((j : Int) == (L : Int)) = false := by simp; omega
              by_cases hyE : y = P
              · subst hyE
                go_wp2
                go_roundw
                case rel => exact ⟨k + 1, l, by omega, by go_num, by rw [HLL.out]; omega, by
                  rw [hSN.out]
                  exact isPages_has hP j x (by rw [HLL.out]; exact hjL) (by rw [HY.out, hPE.out]), hq, .inr ⟨hne, g, cap, by rw [HLL.out], by rw [HLL.out]; exact hcap, hg, hrow'.out⟩, HB.out⟩
                case measure => simp [intOf]; omega
              · have hd5 : (y == P) = false := by simpa using hyE
                have hcj1 : cap ≠ j := by omega
                have hjc : j ≤ cap := by omega
                go_wp2
                go_region_law (first
                  | (refine step_append_grows rfl (.tmp 51) (.tmp 54) _ rfl 29 i0 (.int .u32 0) 1 4 Try.underlying28 hi hz0 hz1 hz2 rfl (by decide) (some ⟨wo.heap.size, 0, none⟩) 1 1 [.int .u32 P] (by simp [Act.eval]) (by intro h; cases h) rfl (by intro b hb2 q u hu; injection hb2 with hb2; subst hb2; match q, hu with | 0, hu => (simp at hu; subst hu; simp [Addr.add])) _ (L - j) _ ((l.drop j).map (.int .u32)) rfl (by simp [HLL.out]) (by intro q u hu; exact ((hrow'.out.drop0 j).alloc_drew _) q u hu) (oneCell_u32 _) (by omega) (by unfold maxLen; omega) (by omega) ?_; intro v1 w1 hown1 hgrow1; obtain ⟨g1, cap1, rfl, hg1, hg2⟩ := hown1.form (by omega))
                  | (refine step_append_grows rfl (.tmp 49) (.tmp 55) _ rfl 29 i0 (.int .u32 0) 1 4 Try.underlying28 hi hz0 hz1 hz2 rfl (by decide) (some ⟨g, 0, none⟩) j j ((l.take j).map (.int .u32)) (by simp [Act.eval]) (by intro h; cases h) (by simp [HLL.out]; omega) (by intro b hb2 q u hu; injection hb2 with hb2; subst hb2; exact (((hrow'.out.take j).alloc_drew _).keep (fun p x hp hc => hgrow1.cell hc (by simp))) q u hu) ⟨g1, 0, none⟩ (1 + (L - j)) cap1 ((P :: l.drop j).map (.int .u32)) (by simp [Act.eval]) (by simp [HLL.out]; omega) (by intro q u hu; exact hown1.cells (g := g1) rfl q u (by simpa using hu)) (oneCell_u32 _) (by omega) (by unfold maxLen; omega) (by omega) ?_; intro v' w2 hown hgrow))
                have hB := HB.out
                have hbw1 : Below w.heap.size w w1 := (((hB.alloc hB.size _).drew).grown hgrow1 (by have := hB.size; simp; omega) (by intro _ h; cases h))
                have hbw : Below w.heap.size w w2 := hbw1.grown hgrow hbw1.size (by intro _ h; cases h)
                have hout : OutIs w.heap.size w2 v' (ins l j P) := out_own (by unfold ins; rw [List.map_append]; exact hown) (by unfold ins; simp) hbw1.size
                clear hown hgrow hgrow1 hB hbw1
                go_wp2
                go_roundw
                case rel => exact ⟨k + 1, ins l j P, by omega, by go_num, by rw [ins_len, HLL.out]; omega, by
                  rw [hSN.out]
                  have h2 := isPages_ins hP j x (by rw [hPE.out]; intro q hq1 _; exact HLS.out q hq1) (by rw [hPE.out, HY.out]; intro _; omega)
                  rw [hPE.out] at h2
                  exact h2, (by intro q hq2; rw [ins_mem] at hq2; rcases hq2 with rfl | hq2; exact ⟨by omega, by omega⟩; exact hq q hq2), hout, hbw⟩
                case measure => simp [intOf]; omega
          · obtain rfl : j = L := by omega
            have hd2 : decide ((j : Int) < (j : Int)) = false := by simp
            by_cases hcj : cap = j
            · have hcj' : j = cap := hcj.symm
              clear hcj
              subst hcj'
              go_wp2
              go_region_law (first
                | (refine step_append_empty rfl (.tmp 51) (.tmp 54) _ rfl 29 i0 Try.underlying28 hi ⟨wo.heap.size, 0, none⟩ 1 1 (Nat.le_refl _) (by simp [Act.eval]) _ _ rfl ?_)
                | (refine step_append_grows rfl (.tmp 49) (.tmp 55) _ rfl 29 i0 (.int .u32 0) 1 4 Try.underlying28 hi hz0 hz1 hz2 rfl (by decide) (some ⟨g, 0, none⟩) j j (l.map (.int .u32)) (by simp [Act.eval]) (by intro h; cases h) (by simp [HLL.out]) (by intro b hb2 q u hu; injection hb2 with hb2; subst hb2; exact (hrow'.out.alloc_drew _) q u hu) ⟨wo.heap.size, 0, none⟩ 1 1 [.int .u32 P] (by simp [Act.eval]) rfl (by intro j u hu; match j, hu with | 0, hu => (simp at hu; subst hu; simp [Addr.add])) (by simp [Value.oneCell']) (by omega) (by unfold maxLen; omega) (by omega) ?_; intro v' w1 hown hgrow))
              have hB := HB.out
              have hbw : Below w.heap.size w w1 := (((hB.alloc hB.size _).drew).grown hgrow (by have := hB.size; simp; omega) (by intro _ h; cases h))
              have hins : ins l j P = l ++ [P] := by unfold ins; rw [List.take_of_length_le (by rw [HLL.out]; omega), List.drop_eq_nil_of_le (by rw [HLL.out]; omega)]
              have hout : OutIs w.heap.size w1 v' (ins l j P) := out_own (n := j + 1) (by rw [hins]; simpa using hown) (by rw [hins]; simp) (by have := hB.size; simp; omega)
              have hins' := Lib.hid hins
              clear hown hgrow hins hB
              go_wp2
              go_roundw
              case rel => exact ⟨k + 1, ins l j P, by omega, by go_num, by rw [ins_len, HLL.out]; omega, by
                rw [hSN.out]
                have h2 := isPages_ins hP j x (by rw [hPE.out]; intro q hq1 _; exact HLS.out q hq1) (by rw [HLL.out]; intro h; omega)
                rw [hPE.out] at h2
                exact h2, (by intro q hq2; rw [ins_mem] at hq2; rcases hq2 with rfl | hq2; exact ⟨by omega, by omega⟩; exact hq q hq2), hout, hbw⟩
              case measure => simp [intOf]; omega
            · go_wp2
              go_region_law (first
                | (refine step_append_empty rfl (.tmp 51) (.tmp 54) _ rfl 29 i0 Try.underlying28 hi ⟨wo.heap.size, 0, none⟩ 1 1 (Nat.le_refl _) (by simp [Act.eval]) _ _ rfl ?_)
                | (refine step_append_grows rfl (.tmp 49) (.tmp 55) _ rfl 29 i0 (.int .u32 0) 1 4 Try.underlying28 hi hz0 hz1 hz2 rfl (by decide) (some ⟨g, 0, none⟩) j j (l.map (.int .u32)) (by simp [Act.eval]) (by intro h; cases h) (by simp [HLL.out]) (by intro b hb2 q u hu; injection hb2 with hb2; subst hb2; exact (hrow'.out.alloc_drew _) q u hu) ⟨wo.heap.size, 0, none⟩ 1 1 [.int .u32 P] (by simp [Act.eval]) rfl (by intro j u hu; match j, hu with | 0, hu => (simp at hu; subst hu; simp [Addr.add])) (by simp [Value.oneCell']) (by omega) (by unfold maxLen; omega) (by omega) ?_; intro v' w1 hown hgrow))
              have hB := HB.out
              have hbw : Below w.heap.size w w1 := (((hB.alloc hB.size _).drew).grown hgrow (by have := hB.size; simp; omega) (by intro _ h; cases h))
              have hins : ins l j P = l ++ [P] := by unfold ins; rw [List.take_of_length_le (by rw [HLL.out]; omega), List.drop_eq_nil_of_le (by rw [HLL.out]; omega)]
              have hout : OutIs w.heap.size w1 v' (ins l j P) := out_own (n := j + 1) (by rw [hins]; simpa using hown) (by rw [hins]; simp) (by have := hB.size; simp; omega)
              have hins' := Lib.hid hins
              clear hown hgrow hins hB
              go_wp2
              go_roundw
              case rel => exact ⟨k + 1, ins l j P, by omega, by go_num, by rw [ins_len, HLL.out]; omega, by
                rw [hSN.out]
                have h2 := isPages_ins hP j x (by rw [hPE.out]; intro q hq1 _; exact HLS.out q hq1) (by rw [HLL.out]; intro h; omega)
                rw [hPE.out] at h2
                exact h2, (by intro q hq2; rw [ins_mem] at hq2; rcases hq2 with rfl | hq2; exact ⟨by omega, by omega⟩; exact hq q hq2), hout, hbw⟩
              case measure => simp [intOf]; omega
    · obtain rfl : k = N := by omega
      have hd : decide ((k : Int) < (k : Int)) = false := by simp
      go_wp2
      go_ret
      rw [List.take_of_length_le (by rw [HN.out]; omega)] at hP
      exact ⟨_, l, rfl, hO.slc, hP, by omega, hB⟩
end Go.Proofs.Ytglcbhfkoigedaa
