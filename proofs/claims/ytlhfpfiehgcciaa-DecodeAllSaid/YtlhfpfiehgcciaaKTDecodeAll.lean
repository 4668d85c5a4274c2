/- Which instructions bytes are, one behind another, or where they end. -/
import Derived.StillTailTactics
import Derived.Test.YtlhfpfiehgcciaaKTY
import Derived.Test.YtlhfpfiehgcciaaKTZ
namespace Go.Proofs.Ytlhfpfiehgcciaa
open Go.ChangeShapes Go.WideShapes Go.ChangeAt Go.RowKit

/-- a row of bytes of one's own, or none yet -/
def OwnN (w : World) (base : Nat) (v : Value) (l : List Int) : Prop := (v = .slice none 0 0 ∧ l = []) ∨ OwnB w base v l
theorem OwnN.below {w w' : World} {base : Nat} {v : Value} {l : List Int} (h : OwnN w base v l) (hb : Below w.heap.size w w') : OwnN w' base v l := h.imp id (fun h => h.below hb)
theorem OwnN.slc {w : World} {base : Nat} {v : Value} {l : List Int} (h : OwnN w base v l) : Slc .u8 w v l.length (lst l) := by
  rcases h with ⟨rfl, rfl⟩ | h
  · exact .inl ⟨rfl, rfl⟩
  · exact h.slc
theorem append_ownC {w : World} {ops : Array Oper} {rest : List Oper} {o : Oper} {a : Act} {Q : Exit → Act → World → Prop}
    (hg : o.guard = none) (s x : Operand) (hop : o.op = Op.call { callee := Callee.builtin Builtin.append, args := #[s, x], argTypes := #[22, 22] })
    (base : Nat) (v1 v2 : Value) (l1 l2 : List Int) (hs : a.eval s = v1) (hx : a.eval x = v2) (h1 : OwnN w base v1 l1) (h2 : Slc .u8 w v2 l2.length (lst l2)) (h0 : 0 < l2.length) (hb : l1.length + l2.length ≤ 1000000) (hbase : base ≤ w.heap.size)
    (hK : ∀ v' w', OwnN w' base v' (l1 ++ l2) → (∀ W, Below base W w → Below base W w') → w.heap.size ≤ w'.heap.size → wpList Try.prog ops Q rest (a.put o.dst v') w') :
    wpList Try.prog ops Q (o :: rest) a w := by
  rcases h1 with ⟨rfl, rfl⟩ | h1
  · exact append_ownN hg s x hop base v2 l2 hs hx h2 h0 (by simpa using hb) hbase (fun v' w' k1 k2 k3 => hK v' w' (.inr k1) k2 k3)
  · exact append_ownB hg s x hop base v1 v2 l1 l2 hs hx h1 h2 h0 hb hbase (fun v' w' k1 _ k2 k3 => hK v' w' (.inr k1) k2 k3)
theorem alls_few {L : Nat} {bs : Nat → Int} (hb : ∀ i, 0 ≤ bs i ∧ bs i < 256) : ∀ (n k : Nat) (l : List Ins), l.length ≤ k → k ≤ L → (allS L bs n k l).1.length ≤ L
  | 0, _, l, h1, h2 => Nat.le_trans h1 h2
  | n + 1, k, l, h1, h2 => by
    unfold allS
    split
    · split
      · rename_i he
        obtain ⟨m, e1, e2, e3⟩ := one_len (L := L - k) (bs := fun i => bs (k + i)) (fun i => hb (k + i)) he
        rw [e1]
        exact alls_few hb n _ _ (by simp; omega) (by simp; omega)
      · exact Nat.zero_le _
    · exact Nat.le_trans h1 h2
theorem all_few {L : Nat} {bs : Nat → Int} (hb : ∀ i, 0 ≤ bs i ∧ bs i < 256) : (allF L bs).1.length ≤ L := alls_few hb _ _ _ (Nat.le_refl _) (Nat.zero_le _)
theorem slice_upto (a : Option Addr) (L cap k : Nat) (ks : Int) (e1 : ks = k) (h1 : k ≤ cap) (w : World) :
    (Instr.sliceAt 22 (.slice a L cap) none (some (.int .i64 ks)) none).run Try.prog w = .ok (.slice a k cap) w := by
  cases a with
  | some ad => exact slice_head ad L cap k ks e1 h1 w
  | none =>
    have hE : Try.prog.elem 22 = 5 := by kernel_rfl
    have hz : (sizeOf (Try.prog.elem 22)).run Try.prog w = .ok 1 w := by kernel_rfl
    have hu : Try.prog.underlying 22 = some (.slice (Try.prog.elem 22)) := by rw [hE]; exact Try.underlying22
    subst e1
    rw [run_sliceAt_slice w _ _ _ _ _ hu, run_slice_h w _ _ _ _ hu .i64 (k : Int) (by omega) (by omega), hz]
    simp only [Result.andThen, sliced, Nat.mul_one, Int.toNat_natCast]
    simp
set_option maxRecDepth 100000 in
set_option maxHeartbeats 8000000 in
theorem decall_walk (v1 : Value) (L1 : Nat) (b1 : Nat → Int) (v2 : Value) (L2 : Nat) (b2 : Nat → Int) (v3 : Value) (L3 : Nat) (b3 : Nat → Int) (d n : Int) (w : World) (hs1 : Slc .u8 w v1 L1 b1) (hb1 : ∀ i, 0 ≤ b1 i ∧ b1 i < 256) (hL1 : L1 ≤ maxLen) (hs2 : Slc .u8 w v2 L2 b2) (hb2 : ∀ i, 0 ≤ b2 i ∧ b2 i < 256) (hL2 : L2 ≤ maxLen) (hs3 : Slc .u8 w v3 L3 b3) (hb3 : ∀ i, 0 ≤ b3 i ∧ b3 i < 256) (_hL3 : L3 ≤ maxLen) (_d0 : 0 ≤ d) (_d1 : d < 4294967296) (n0 : 0 ≤ n) (n1 : n < 256) :
    Calls Try.prog 5 #[v1, v2, v3, .int .u32 d, .int .u8 n] w fun e w' => e = .returned (.bool true) ∧ Below w.heap.size w w' := by
  unfold maxLen at hL1 hL2
  obtain ⟨x1, c1, rfl⟩ := hs1.len
  obtain ⟨x2, c2, rfl⟩ := hs2.len
  obtain ⟨x3, c3, rfl⟩ := hs3.len
  go_enter Try.func5, Try.ntmps5
  go_wp2_with fail
  refine (known10_any _).mono ?_
  rintro e w0 ⟨rfl, B0⟩
  by_cases hg1 : 100 < L1
  · have hd : decide ((100 : Int) < (L1 : Int)) = true := decide_eq_true (by omega)
    go_wp2
    go_ret
    exact ⟨rfl, B0⟩
  have hd1 : decide ((100 : Int) < (L1 : Int)) = false := decide_eq_false (by omega)
  by_cases hg2 : 20 < L2
  · have hd : decide ((20 : Int) < (L2 : Int)) = true := decide_eq_true (by omega)
    go_wp2
    go_ret
    exact ⟨rfl, B0⟩
  have hd2 : decide ((20 : Int) < (L2 : Int)) = false := decide_eq_false (by omega)
  by_cases hg3 : L3 < L2
  · have hd : decide ((L3 : Int) < (L2 : Int)) = true := decide_eq_true (by omega)
    go_wp2
    go_ret
    exact ⟨rfl, B0⟩
  have hd3 : decide ((L3 : Int) < (L2 : Int)) = false := decide_eq_false (by omega)
  have hd3' : decide (L3 < L2) = false := decide_eq_false (by omega)
  have HI1 := Lib.hid hb1
  have HI2 := Lib.hid hb2
  have HI3 := Lib.hid hb3
  have HS1 := Lib.hid (hs1.below B0)
  have HS2 := Lib.hid (hs2.below B0)
  have HS3 := Lib.hid (hs3.below B0)
  have HB0 := Lib.hid B0
  have l1m : L1 ≤ 100 := by omega
  have l2m : L2 ≤ 20 := by omega
  have l3m : L2 ≤ L3 := by omega
  clear hs1 hs2 hs3 hb1 hb2 hb3 B0 hL1 hL2 _hL3 hg1 hg2 hg3
  go_wp2_with fail
  go_loopw [11, 12] (fun v11 v12 wr => ∃ (i : Nat) (l : List Int), i ≤ L2 ∧ v12 = .int .i64 i ∧ OwnN wr w0.heap.size v11 l ∧ l.length ≤ 15 * i ∧ (∀ y ∈ l, 0 ≤ y ∧ y < 256) ∧ Below w0.heap.size w0 wr) (fun _ v12 _ => L2 - (intOf v12).toNat)
  case atStart => exact ⟨0, [], Nat.zero_le _, rfl, .inl ⟨rfl, rfl⟩, by simp, (fun y hy => by cases hy), Below.refl _ _⟩
  case round =>
    obtain ⟨i, l, hi, rfl, hown, hll, hlb, hbr⟩ := hrel
    have HO := Lib.hid hown
    have HB := Lib.hid hbr
    have HLB := Lib.hid hlb
    clear hown hbr hlb
    by_cases hlt : i < L2
    · have hdi : decide ((i : Int) < (L2 : Int)) = true := by simp; omega
      have hv2 : ∃ ad, x2 = some ad ∧ ∀ j, j < L2 → w0.cell? (ad.add j) = some (.int .u8 (b2 j)) := by
        rcases HS2.out with ⟨_, h0⟩ | ⟨ad, c', he, hl, hc⟩
        · omega
        · injection he with e1 e2 e3
          exact ⟨ad, e1, hc⟩
      have hv3 : ∃ ad, x3 = some ad ∧ ∀ j, j < L3 → w0.cell? (ad.add j) = some (.int .u8 (b3 j)) := by
        rcases HS3.out with ⟨_, h0⟩ | ⟨ad, c', he, hl, hc⟩
        · omega
        · injection he with e1 e2 e3
          exact ⟨ad, e1, hc⟩
      obtain ⟨ad2, rfl, hc2⟩ := hv2
      obtain ⟨ad3, rfl, hc3⟩ := hv3
      have hz2 := (HB.out.cell (p := ad2.add i) (cell_lt (hc2 i hlt))).trans (hc2 i hlt)
      have hz3 := (HB.out.cell (p := ad3.add i) (cell_lt (hc3 i (by omega)))).trans (hc3 i (by omega))
      have hi2 : (i : Int) < (L2 : Int) := by omega
      have hi3 : (i : Int) < (L3 : Int) := by omega
      have hk := HI2.out i
      have hr := HI3.out i
      obtain ⟨D, hD⟩ : ∃ D, D = (d + (i : Int) * 7) % 4294967296 := ⟨_, rfl⟩
      have hw1 : IntKind.u32.wrap (d + IntKind.u32.wrap (IntKind.u32.wrap (i : Int) * 7)) = D := by rw [hD, IntKind.wrap_u32, IntKind.wrap_u32, IntKind.wrap_u32]; omega
      have D0 : 0 ≤ D := by omega
      have D1 : D < 4294967296 := by omega
      clear hD hc2 hc3
      generalize b2 i = K at *
      generalize b3 i = R at *
      go_upto_region 9 with (fail)
      go_still_tail 13, (by kernel_rfl)
      change wpList _ _ _ _ _ wr.drew
      have HO1 := Lib.hid (HO.out.below ((Below.refl _ wr).drew))
      have HB1 := Lib.hid (HB.out.drew)
      have hzs : (wr.drew).heap.size = wr.heap.size := rfl
      generalize wr.drew = W at *
      clear HO HB hz2 hz3
      go_wp2_with fail
      refine (bytes_any K R D _ hk.1 hk.2 D0 D1).mono ?_
      rintro e w1 ⟨vy, rfl, O1, B1⟩
      obtain ⟨l13, l15⟩ := bytesF_len K R D
      have lok := bytesF_ok K R D hr.1 hr.2 D0 D1
      generalize bytesF K R D = Y at *
      obtain ⟨N, hn⟩ : ∃ N, N = Y.length := ⟨_, rfl⟩
      have S1 := O1.slc
      obtain ⟨g, c, rfl, _, _, hc, _⟩ := id O1
      rw [← hn] at S1 hc l13 l15
      rw [← hn]
      have H1 := Lib.hid S1
      have HO2 := Lib.hid (HO1.out.below B1)
      have HB2 := Lib.hid (below_step HB1.out B1)
      have HOK := Lib.hid lok
      have HN := Lib.hid hn
      obtain ⟨⟨I, E⟩, hx⟩ : ∃ x, x = oneF N (lst Y) := ⟨_, rfl⟩
      have HX := Lib.hid hx
      have HD := Lib.hid (rone_any _ N (lst Y) (lst_ok HOK.out) (Nat.le_trans l15 (by decide)) w1 H1.out)
      rw [← hx] at HD
      clear B1 O1 S1 lok hn hx HO1 HB1
      go_wp2_with fail
      refine HD.out.mono ?_
      rintro e w2 ⟨rfl, b'⟩
      unfold insR
      have HL := Lib.hid ((Lies.none HB2.out).on b')
      have HO3 := Lib.hid (HO2.out.below b')
      have H2 := Lib.hid (H1.out.below b')
      clear b' HD HO2 HB2 H1
      have HT1 := Lib.hid (there_alloc_new w2 zeroA 33 18 (by decide))
      by_cases he : E = 0
      · subst he
        obtain ⟨m, hm, m1, mN⟩ := one_len (L := N) (bs := lst Y) (lst_ok HOK.out) (by rw [← HX.out])
        rw [← HX.out] at hm
        obtain ⟨op, cd, sz, oa, ob, oc, rp, ln⟩ := I
        obtain rfl : ln = (m : Int) := hm
        obtain ⟨I, hI⟩ : ∃ I : Ins, I = ⟨op, cd, sz, oa, ob, oc, rp, (m : Int)⟩ := ⟨_, rfl⟩
        rw [← hI]
        have HIe := Lib.hid hI
        have hsl := fun W => slice_head ⟨g, 0, none⟩ N c m (m : Int) rfl (by omega) W
        obtain ⟨T, hT⟩ : ∃ T, T = Y.take m := ⟨_, rfl⟩
        have HTL := Lib.hid (show T.length = m by rw [hT, List.length_take, ← HN.out]; omega)
        have HTI := Lib.hid (show ∀ i, i < m → lst T i = lst Y i from fun i hi => by rw [hT]; unfold lst; simp [List.getD_eq_getElem?_getD, hi])
        have HTB := Lib.hid (show ∀ y ∈ T, 0 ≤ y ∧ y < 256 from fun y hy => HOK.out y (by rw [hT] at hy; exact List.mem_of_mem_take hy))
        clear hI hT
        go_wp2_with (first
          | (refine store_ins rfl (.tmp 14) (.tmp 64) rfl w2.heap.size rfl I rfl HT1.out ?_; intro Y1 hY hl; have HP := Lib.hid (HL.out.put zeroA 33 (insL I) (Nat.le_refl 18) _ rfl Y1 hY); have hb2 := (show Below w2.heap.size w2 Y1 by rw [hY]; exact below_setCells (Nat.le_refl _) _ _ _ (below_last (Below.refl _ _) _)); have HO4 := Lib.hid (HO3.out.below hb2); have H3 := Lib.hid (H2.out.below hb2); have hln := (ins_all (HP.out.at_ w2.heap.size (insL I) (by simp))).1.2.2.2.2; rw [HIe.out] at hln; dsimp only at hln; clear hY hl hb2)
          | (at_builtin; refine append_ownC rfl (.tmp 68) (.tmp 72) rfl w0.heap.size u11 (.slice (some ⟨g, 0, none⟩) m c) l T rfl rfl HO4.out (by rw [HTL.out]; exact (slc_short H3.out mN).congr (fun i hi => (HTI.out i hi).symm)) (by rw [HTL.out]; omega) (by rw [HTL.out]; omega) HP.out.below.size ?_; intro v' w' k1 k2 k3; have HO5 := Lib.hid k1; have HB5 := Lib.hid (k2 w0 HP.out.below); clear k1 k2 k3))
        go_roundw
        case rel => exact ⟨i + 1, l ++ T, by omega, by go_num, HO5.out, by rw [List.length_append, HTL.out]; omega, fun y hy => (List.mem_append.1 hy).elim (HLB.out y) (HTB.out y), HB5.out⟩
        case measure => simp [intOf]; omega
      · have he1 : (E == 0) = false := by simpa using he
        go_wp2_with (refine store_ins rfl (.tmp 14) (.tmp 64) rfl w2.heap.size rfl I rfl HT1.out ?_; intro Y1 hY hl; have HP := Lib.hid (HL.out.put zeroA 33 (insL I) (Nat.le_refl 18) _ rfl Y1 hY); have hb2 := (show Below w2.heap.size w2 Y1 by rw [hY]; exact below_setCells (Nat.le_refl _) _ _ _ (below_last (Below.refl _ _) _)); have HO4 := Lib.hid (HO3.out.below hb2); clear hY hl hb2)
        go_roundw
        case rel => exact ⟨i + 1, l, by omega, by go_num, HO4.out, by omega, HLB.out, HP.out.below⟩
        case measure => simp [intOf]; omega
    · obtain rfl : i = L2 := by omega
      have S11 := HO.out.slc
      obtain ⟨a11, c11, rfl⟩ := S11.len
      have ll : l.length ≤ 300 := by omega
      have hn6 : 0 ≤ n % 6 ∧ n % 6 < 6 := by omega
      obtain ⟨r, hr⟩ : ∃ r : Nat, n % 6 = (r : Int) := ⟨(n % 6).toNat, by omega⟩
      have hr6 : r < 6 := by omega
      have hlc : l.length ≤ c11 := by
        rcases S11 with ⟨h, h0⟩ | ⟨ad, c', h, hl, _⟩
        · injection h with _ h2 h3
          omega
        · injection h with _ _ h3
          omega
      have HSL := Lib.hid S11
      have HLB' := Lib.hid (lst_ok HLB.out)
      by_cases hrl : r < l.length
      · obtain ⟨q, hqe, hql⟩ : ∃ q : Nat, (l.length : Int) - (r : Int) = (q : Int) ∧ q ≤ l.length := ⟨l.length - r, by omega, by omega⟩
        have hsl := fun W => slice_upto a11 l.length c11 q (q : Int) rfl (by omega) W
        have hrl' : (r : Int) < (l.length : Int) := by omega
        clear S11 hrl
        obtain ⟨Bk, hBk⟩ : ∃ Bk, Bk = wr.heap.size := ⟨_, rfl⟩
        obtain ⟨W, hW⟩ : ∃ W, W = wr.alloc (.cells #[.slice x1 L1 c1, .slice a11 l.length c11, .slice a11 q c11] 22) := ⟨_, rfl⟩
        have hal := below_last (Below.refl _ wr) (.cells #[.slice x1 L1 c1, .slice a11 l.length c11, .slice a11 q c11] 22)
        rw [← hW] at hal
        have HY := Lib.hid (show ∀ j, j < 3 → ∃ v N bs, W.cell? ⟨Bk, j, none⟩ = some v ∧ Slc .u8 W v N bs ∧ (∀ i, 0 ≤ bs i ∧ bs i < 256) ∧ N ≤ 1000000 from fun j hj => by
          subst hBk
          match j, hj with
          | 0, _ => exact ⟨.slice x1 L1 c1, L1, b1, by rw [hW]; simp [go_sem], (HS1.out.below HB.out).below hal, HI1.out, by omega⟩
          | 1, _ => exact ⟨.slice a11 l.length c11, l.length, lst l, by rw [hW]; simp [go_sem], HSL.out.below hal, HLB'.out, by omega⟩
          | 2, _ => exact ⟨.slice a11 q c11, q, lst l, by rw [hW]; simp [go_sem], (slc_short HSL.out (by omega)).below hal, HLB'.out, by omega⟩)
        have HBW := Lib.hid (below_step HB0.out (below_step HB.out hal))
        have hz : Bk < W.heap.size := by rw [hW, hBk]; simp
        have HWe := Lib.hid hW
        have HBe := Lib.hid hBk
        clear hal hW hBk
        go_wp2_with fail
        rw [← HWe.out, ← HBe.out]
        clear HWe HBe hr
        go_loopw [89] (fun v89 wr => ∃ j : Nat, j ≤ 3 ∧ v89 = .int .i64 j ∧ Below W.heap.size W wr) (fun v89 _ => 3 - (intOf v89).toNat)
        case atStart => exact ⟨0, by omega, rfl, Below.refl _ _⟩
        case round =>
          obtain ⟨j, hj, rfl, hbr⟩ := hrel
          have HBR := Lib.hid hbr
          by_cases hjt : j < 3
          · have hdj : decide ((j : Int) < 3) = true := by simp; omega
            obtain ⟨v, N, bs, hc, hsv, hby, hN⟩ := HY.out j hjt
            have hc' := hbr.cell (p := ⟨Bk, j, none⟩) hz
            rw [hc] at hc'
            have HSV := Lib.hid (hsv.below hbr)
            have HBY := Lib.hid hby
            have hfew := all_few (L := N) (bs := bs) hby
            have HD1 := Lib.hid (dall_any v N bs hby hN)
            have HD2 := Lib.hid (rall_any v N bs hby hN)
            generalize allF N bs = X at *
            obtain ⟨ls, at_, er⟩ := X
            have hl6 : ls.length ≤ 1000000 := Nat.le_trans hfew hN
            clear hc hsv hby hbr hfew
            go_wp2_with fail
            refine (HD1.out _ HSV.out).mono ?_
            rintro e w1 ⟨r1, rfl, O1, b'⟩
            have HO1 := Lib.hid O1
            have HSV1 := Lib.hid (HSV.out.below b')
            have HBR1 := Lib.hid (below_step HBR.out b')
            clear O1 b'
            go_wp2_with fail
            refine (HD2.out _ HSV1.out).mono ?_
            rintro e w2 ⟨r2, rfl, O2, b'⟩
            have HO2 := Lib.hid O2
            have HO1' := Lib.hid (HO1.out.below b')
            have HBR2 := Lib.hid (below_step HBR1.out b')
            clear O2 b' HO1
            go_wp2_with fail
            refine (instrs_any r1 r2 _ _ ls w2 HO1'.out HO2.out hl6).mono ?_
            rintro e w3 ⟨rfl, b'⟩
            have HBR3 := Lib.hid (below_step HBR2.out b')
            clear b'
            go_wp2_with fail
            go_roundw
            case rel => exact ⟨j + 1, by omega, by go_num, HBR3.out⟩
            case measure => simp [intOf]; omega
          · obtain rfl : j = 3 := by omega
            go_wp2_with fail
            go_ret
            exact ⟨rfl, HBW.out.trans (HBR.out.mono HBW.out.size)⟩
      · have hsl := fun W => slice_upto a11 l.length c11 0 0 rfl (by omega) W
        have hrl' : ¬ (r : Int) < (l.length : Int) := by omega
        clear S11 hrl
        obtain ⟨Bk, hBk⟩ : ∃ Bk, Bk = wr.heap.size := ⟨_, rfl⟩
        obtain ⟨W, hW⟩ : ∃ W, W = wr.alloc (.cells #[.slice x1 L1 c1, .slice a11 l.length c11, .slice a11 0 c11] 22) := ⟨_, rfl⟩
        have hal := below_last (Below.refl _ wr) (.cells #[.slice x1 L1 c1, .slice a11 l.length c11, .slice a11 0 c11] 22)
        rw [← hW] at hal
        have HY := Lib.hid (show ∀ j, j < 3 → ∃ v N bs, W.cell? ⟨Bk, j, none⟩ = some v ∧ Slc .u8 W v N bs ∧ (∀ i, 0 ≤ bs i ∧ bs i < 256) ∧ N ≤ 1000000 from fun j hj => by
          subst hBk
          match j, hj with
          | 0, _ => exact ⟨.slice x1 L1 c1, L1, b1, by rw [hW]; simp [go_sem], (HS1.out.below HB.out).below hal, HI1.out, by omega⟩
          | 1, _ => exact ⟨.slice a11 l.length c11, l.length, lst l, by rw [hW]; simp [go_sem], HSL.out.below hal, HLB'.out, by omega⟩
          | 2, _ => exact ⟨.slice a11 0 c11, 0, lst l, by rw [hW]; simp [go_sem], (slc_short HSL.out (by omega)).below hal, HLB'.out, by omega⟩)
        have HBW := Lib.hid (below_step HB0.out (below_step HB.out hal))
        have hz : Bk < W.heap.size := by rw [hW, hBk]; simp
        have HWe := Lib.hid hW
        have HBe := Lib.hid hBk
        clear hal hW hBk
        go_wp2_with fail
        rw [← HWe.out, ← HBe.out]
        clear HWe HBe hr
        go_loopw [89] (fun v89 wr => ∃ j : Nat, j ≤ 3 ∧ v89 = .int .i64 j ∧ Below W.heap.size W wr) (fun v89 _ => 3 - (intOf v89).toNat)
        case atStart => exact ⟨0, by omega, rfl, Below.refl _ _⟩
        case round =>
          obtain ⟨j, hj, rfl, hbr⟩ := hrel
          have HBR := Lib.hid hbr
          by_cases hjt : j < 3
          · have hdj : decide ((j : Int) < 3) = true := by simp; omega
            obtain ⟨v, N, bs, hc, hsv, hby, hN⟩ := HY.out j hjt
            have hc' := hbr.cell (p := ⟨Bk, j, none⟩) hz
            rw [hc] at hc'
            have HSV := Lib.hid (hsv.below hbr)
            have HBY := Lib.hid hby
            have hfew := all_few (L := N) (bs := bs) hby
            have HD1 := Lib.hid (dall_any v N bs hby hN)
            have HD2 := Lib.hid (rall_any v N bs hby hN)
            generalize allF N bs = X at *
            obtain ⟨ls, at_, er⟩ := X
            have hl6 : ls.length ≤ 1000000 := Nat.le_trans hfew hN
            clear hc hsv hby hbr hfew
            go_wp2_with fail
            refine (HD1.out _ HSV.out).mono ?_
            rintro e w1 ⟨r1, rfl, O1, b'⟩
            have HO1 := Lib.hid O1
            have HSV1 := Lib.hid (HSV.out.below b')
            have HBR1 := Lib.hid (below_step HBR.out b')
            clear O1 b'
            go_wp2_with fail
            refine (HD2.out _ HSV1.out).mono ?_
            rintro e w2 ⟨r2, rfl, O2, b'⟩
            have HO2 := Lib.hid O2
            have HO1' := Lib.hid (HO1.out.below b')
            have HBR2 := Lib.hid (below_step HBR1.out b')
            clear O2 b' HO1
            go_wp2_with fail
            refine (instrs_any r1 r2 _ _ ls w2 HO1'.out HO2.out hl6).mono ?_
            rintro e w3 ⟨rfl, b'⟩
            have HBR3 := Lib.hid (below_step HBR2.out b')
            clear b'
            go_wp2_with fail
            go_roundw
            case rel => exact ⟨j + 1, by omega, by go_num, HBR3.out⟩
            case measure => simp [intOf]; omega
          · obtain rfl : j = 3 := by omega
            go_wp2_with fail
            go_ret
            exact ⟨rfl, HBW.out.trans (HBR.out.mono HBW.out.size)⟩

theorem decodeAll_own : ownKnob Try.prog.godebug = none := by kernel_rfl
set_option maxRecDepth 100000 in
theorem decodeAll_lifted (os : Os) (started : os.Started) (H : Type) (enc : TypeId × Value → H) :
    ReturnsInHanded {} Try.checked os 5 .any (Rows.decodeAllSpec.pre6 enc Try.prog Try.f5 Rows.decodeAllRow.domain false) (Rows.decodeAllSpec.post enc Try.prog Try.f5 false true false false) := by
  refine returnsInHanded_of_change (C := Try.checked) decodeAll_own started (by kernel_rfl) Try.func5
    (ChangeSpec.witness6 (enc := enc) (C := Try.checked) false ⟨#[], #[.slice none 0 0, .slice none 0 0, .slice none 0 0, .int .u32 0, .int .u8 0], []⟩ 8 (by kernel_rfl) (by kernel_rfl) (by kernel_rfl) (by kernel_rfl)) ?_
  intro W base args ds gs before hval0 hW hcnd _
  have hval : ∀ (j : Nat) t v, Try.f5.params[j]? = some t → args[j]? = some v → Value.okWide Try.prog W .any base t v := hval0
  have hW' := hW
  obtain ⟨p, q, hA0, hV, rfl, hfz, hnd⟩ := hW
  have hA : DataW.TrodAll enc Try.prog W 0 (fun _ => true) true Try.f5.params.toList args.toList ds p := hA0
  rw [Try.params5] at hA hval
  obtain ⟨v0, vs0, d0, ds0, p0, q0, hargs, rfl, rfl, h0, r0⟩ := trodAll_cons hA
  obtain ⟨v1, vs1, d1, ds1, p1, q1, rfl, rfl, rfl, h1, r1⟩ := trodAll_cons r0
  obtain ⟨v2, vs2, d2, ds2, p2, q2, rfl, rfl, rfl, h2, r2⟩ := trodAll_cons r1
  obtain ⟨v3, vs3, d3, ds3, p3, q3, rfl, rfl, rfl, h3, r3⟩ := trodAll_cons r2
  obtain ⟨v4, vs4, d4, ds4, p4, q4, rfl, rfl, rfl, h4, r4⟩ := trodAll_cons r3
  obtain ⟨rfl, rfl, rfl⟩ := trodAll_nil r4
  obtain rfl : args = #[v0, v1, v2, v3, v4] := by cases args; simp_all
  obtain ⟨rfl, rfl⟩ := trodVars_none hV
  obtain ⟨L0, bs0, hs0, hw0, hL0⟩ := open_slc Try.underlying22 Try.underlying5 (by kernel_rfl) (hval 0 22 v0 rfl rfl) h0
  obtain ⟨L1, bs1, hs1, hw1, hL1⟩ := open_slc Try.underlying22 Try.underlying5 (by kernel_rfl) (hval 1 22 v1 rfl rfl) h1
  obtain ⟨L2, bs2, hs2, hw2, hL2⟩ := open_slc Try.underlying22 Try.underlying5 (by kernel_rfl) (hval 2 22 v2 rfl rfl) h2
  obtain ⟨a3, rfl, rfl, rfl, w3⟩ := open_int Try.underlying23 (hval 3 23 v3 rfl rfl) h3
  obtain ⟨a4, rfl, rfl, rfl, w4⟩ := open_int Try.underlying5 (hval 4 5 v4 rfl rfl) h4
  clear hA0 hval0
  simp only [List.append_nil] at hW'
  have b0 : ∀ i, 0 ≤ bs0 i ∧ bs0 i < 256 := fun i => by
    have h := hw0 i
    simp only [Lit.wf, Bool.and_eq_true, decide_eq_true_eq] at h
    have e1 : IntKind.u8.min = 0 := by decide
    have e2 : IntKind.u8.max = 255 := by decide
    omega
  have b1 : ∀ i, 0 ≤ bs1 i ∧ bs1 i < 256 := fun i => by
    have h := hw1 i
    simp only [Lit.wf, Bool.and_eq_true, decide_eq_true_eq] at h
    have e1 : IntKind.u8.min = 0 := by decide
    have e2 : IntKind.u8.max = 255 := by decide
    omega
  have b2 : ∀ i, 0 ≤ bs2 i ∧ bs2 i < 256 := fun i => by
    have h := hw2 i
    simp only [Lit.wf, Bool.and_eq_true, decide_eq_true_eq] at h
    have e1 : IntKind.u8.min = 0 := by decide
    have e2 : IntKind.u8.max = 255 := by decide
    omega
  have b3 : 0 ≤ a3 ∧ a3 < 4294967296 := by
    have h := w3
    simp only [Lit.wf, Bool.and_eq_true, decide_eq_true_eq] at h
    have e1 : IntKind.u32.min = 0 := by decide
    have e2 : IntKind.u32.max = 4294967295 := by decide
    omega
  have b4 : 0 ≤ a4 ∧ a4 < 256 := by
    have h := w4
    simp only [Lit.wf, Bool.and_eq_true, decide_eq_true_eq] at h
    have e1 : IntKind.u8.min = 0 := by decide
    have e2 : IntKind.u8.max = 255 := by decide
    omega
  refine (decall_walk v0 L0 bs0 v1 L1 bs1 v2 L2 bs2 a3 a4 W hs0 b0 hL0 hs1 b1 hL1 hs2 b2 hL2 b3.1 b3.2 b4.1 b4.2).mono fun e W' ⟨he, hg⟩ => ?_
  subst he
  exact ⟨_, rfl, post_mem hW' rfl (by kernel_rfl) (by kernel_rfl) hg rfl rfl
    (fun _ _ _ => (trodAll_cons_mk (shut_bool Try.underlying4 _) trodAll_mk0)) (ok_one (by kernel_rfl) rfl (okWide_bool_mk Try.underlying4 _))⟩

theorem decodeAll_holds : Rows.DecodeAllSaid :=
  OpenClaim.holds_of_wide 5 Try.f5 rfl rfl rfl rfl rfl rfl rfl ⟨rfl, rfl, rfl, rfl, rfl⟩ rfl rfl rfl rfl rfl (by kernel_rfl) Try.func5 (by kernel_rfl)
    (of_decide_eq_true (by kernel_rfl)) (by unfold Func.isWrapper; first | (rw [if_pos (by decide +kernel)]; kernel_rfl) | (rw [if_neg (by decide +kernel)]; exact ⟨rfl, rfl⟩))
    (fun os started H enc _ => decodeAll_lifted os started H enc)
#print axioms decodeAll_holds
end Go.Proofs.Ytlhfpfiehgcciaa
