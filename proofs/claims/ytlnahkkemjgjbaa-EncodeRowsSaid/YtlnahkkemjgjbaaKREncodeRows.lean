/- Rows of instructions: as bytes,and back. -/
import Derived.Test.YtlnahkkemjgjbaaKRRows11
import Derived.Test.YtlnahkkemjgjbaaKRW
namespace Go.Proofs.Ytlnahkkemjgjbaa
open Go.ChangeShapes Go.WideShapes Go.ChangeAt Go.RowKit
def RowV (w : World) (s0 s1 : Value) (p0 p1 : Addr) (k : Nat) (d D K R : Int) (Y : List Int) (I : Ins) (E : Int) : Nat → Value → Value → World → Prop
  | 0,v,_,_ => v = s0
  | 1,v,_,_ => v = .int .i64 k
  | 2,v,_,_ => v = .pointer (some p0)
  | 3,v,_,_ => v = .int .u8 K
  | 4,v,_,_ => v = s1
  | 5,v,_,_ => v = .int .i64 k
  | 6,v,_,_ => v = .pointer (some p1)
  | 7,v,_,_ => v = .int .u8 R
  | 8,v,_,_ => v = .int .u32 d
  | 9,v,_,_ => v = .int .i64 k
  | 10,v,_,_ => v = .int .u32 (IntKind.u32.wrap k)
  | 11,v,_,_ => v = .int .u32 (IntKind.u32.wrap (IntKind.u32.wrap k * 5))
  | 12,v,_,_ => v = .int .u32 D
  | 13,v,_,u => Slc .u8 u v Y.length (lst Y)
  | 14,v,_,_ => v = insR (I,E)
  | 15,v,_,_ => v = insR (I,E)
  | 16,v,_,_ => v = .agg (insL I).toArray
  | 17,v,_,_ => v = .int .i64 E
  | 18,v,_,u => ∃ q,v = .pointer (some ⟨q,0,none⟩) ∧ w.heap.size ≤ q ∧ BlkI I u q
  | 19,_,x,u => ∃ q,x = .pointer (some ⟨q,0,none⟩) ∧ w.heap.size ≤ q ∧ StoI I u q
  | 20,v,_,_ => v = .int .i64 E
  | _,_,_,_ => True
theorem rowv_stays {w : World} {s0 s1 : Value} {p0 p1 : Addr} {k : Nat} {d D K R : Int} {Y : List Int} {I : Ins} {E : Int} (i : Nat) (v x : Value) (u : World) (_ : Unit) (u' : World) (_ : Unit) (h : RowV w s0 s1 p0 p1 k d D K R Y I E i v x u) (hg : KeptI I u u') : RowV w s0 s1 p0 p1 k d D K R Y I E i v x u':=by
  unfold RowV at h ⊢
  split at h
  all_goals first
    | exact h
    | exact hg.2.2.2 _ _ _ h
    | (obtain ⟨q,h1,h2,h3⟩:=h;exact ⟨q,h1,h2,hg.2.1 q h3⟩)
    | (obtain ⟨q,h1,h2,h3⟩:=h;exact ⟨q,h1,h2,hg.2.2.1 q h3⟩)
theorem blki_there {I : Ins} {u : World} {q : Nat} (h : BlkI I u q) : u.there q 0 18:=h.elim (fun x => there_block x 0 18 (by decide)) (fun x => there_block x 0 18 (by show 0 + 18 ≤ 18;decide))
theorem OwnI.at2 {w : World} {base g n cap : Nat} {l : List Ins} (h : OwnI w base (.slice (some ⟨g,0,none⟩) n cap) l) (hn : n = l.length) (k : Nat) (hk : k < l.length) : w.rangeAt g (k * 18) (insL l[k]):=by subst hn;exact OwnI.at_ h k hk
theorem OwnI.some_ {w : World} {base n cap : Nat} {a : Option Addr} {l : List Ins} (h : OwnI w base (.slice a n cap) l) (hn : 0 < n) : ∃ g,a = some ⟨g,0,none⟩:=by
  rcases h.2 with ⟨e,_⟩ | ⟨g,cp,cur,e1,_⟩
  · injection e with _ e;omega
  · injection e1 with e1;exact ⟨g,e1⟩
theorem wp_neqD {op : Oper} {a : Act} {w : World} {K : Act → World → Prop} {Q : Exit → Act → World → Prop} (x y : Operand) (ho : op.op = .binOp .neq 27 x y 27) (i : Ins) (hx : a.eval x = insV i) (hy : a.eval y = insV i)
    (hK : K (a.put op.dst (.bool false)) w) : op.wp Try.prog a w K Q:=by
  have hg : (eqGuard .neq 27 x y (insV i) (insV i)).run Try.prog w = .ok () w:=run_eqGuard_agg w .neq 27 x y (insC i) (insC i) ins_guard1
  have hn : (binOp .neq 27 (insV i) (insV i)).run Try.prog w = .ok (.bool false) w:=by rw [ins_neqD,decide_eq_true rfl];rfl
  unfold Oper.wp execOp
  rw [ho]
  simp only [Sem.run_bind,hx,hy,hg,Result.andThen_ok,hn,Sem.run_pure]
  exact hK
def RowW (x : Ins) (g j n c : Nat) : Nat → Value → Prop
  | 0,v => v = .agg (insL x).toArray
  | 1,v => v = .slice (some ⟨g,0,none⟩) n c
  | 2,v => v = .int .i64 j
  | 3,v => v = .pointer (some ⟨g,j * 18,none⟩)
  | 4,v => v = .agg (insL x).toArray
  | 5,v => v = .bool false
  | _,_ => True
set_option maxRecDepth 100000
set_option maxHeartbeats 8000000
theorem encrows_walk (v0 : Value) (L0 : Nat) (b0 : Nat → Int) (v1 : Value) (L1 : Nat) (b1 : Nat → Int) (d n : Int) (bad : Bool) (w : World) (hs0 : Slc .u8 w v0 L0 b0) (hb0 : ∀ i,0 ≤ b0 i ∧ b0 i < 256) (hL0 : L0 ≤ maxLen) (hs1 : Slc .u8 w v1 L1 b1) (hb1 : ∀ i,0 ≤ b1 i ∧ b1 i < 256) (hL1 : L1 ≤ maxLen) (_d0 : 0 ≤ d) (_d1 : d < 4294967296) (n0 : 0 ≤ n) (n1 : n < 256) :
    Calls Try.prog 4 #[v0,v1,.int .u32 d,.int .u8 n,.bool bad] w fun e w' => e = .returned (.bool true) ∧ Below w.heap.size w w':=by
  unfold maxLen at hL0 hL1
  obtain ⟨x0,c0,rfl⟩:=hs0.len
  obtain ⟨x1,c1,rfl⟩:=hs1.len
  go_enter Try.func4,Try.ntmps4
  go_wp2_with fail
  refine (known11_any _).mono ?_
  rintro e w0 ⟨rfl,B0⟩
  by_cases hg1 : 12 < L0
  · have hd : decide ((12 : Int) < (L0 : Int)) = true:=decide_eq_true (by omega)
    go_wp2
    go_ret
    exact ⟨rfl,B0⟩
  have hd1 : decide ((12 : Int) < (L0 : Int)) = false:=decide_eq_false (by omega)
  by_cases hg2 : L1 < L0
  · have hd : decide ((L1 : Int) < (L0 : Int)) = true:=decide_eq_true (by omega)
    go_wp2
    go_ret
    exact ⟨rfl,B0⟩
  have hd2 : decide ((L1 : Int) < (L0 : Int)) = false:=decide_eq_false (by omega)
  have hd2' : decide (L1 < L0) = false:=decide_eq_false (by omega)
  have HI0:=Lib.hid hb0
  have HI1:=Lib.hid hb1
  have HS0:=Lib.hid (hs0.below B0)
  have HS1:=Lib.hid (hs1.below B0)
  have HB0:=Lib.hid B0
  have l0m : L0 ≤ 12:=by omega
  have l1m : L0 ≤ L1:=by omega
  clear hs0 hs1 hb0 hb1 B0 hL0 hg1 hg2
  go_wp2_with fail
  go_loopw [11,12] (fun v11 v12 wr => ∃ (i : Nat) (l : List Ins),i ≤ L0 ∧ v12 = .int .i64 i ∧ OwnI wr w0.heap.size v11 l ∧ l.length ≤ i ∧ (∀ x ∈ l,rdOk x) ∧ Below w0.heap.size w0 wr) (fun _ v12 _ => L0 - (intOf v12).toNat)
  case atStart => exact ⟨0,[],Nat.zero_le _,rfl,OwnI.nil _ _,by simp,fun x hx => absurd hx List.not_mem_nil,Below.refl _ _⟩
  case round =>
    obtain ⟨i,l,hi,rfl,hown,hll,hok,hbr⟩:=hrel
    have HO:=Lib.hid hown
    have HB:=Lib.hid hbr
    have HK:=Lib.hid hok
    clear hown hbr hok
    by_cases hlt : i < L0
    · have hdi : decide ((i : Int) < (L0 : Int)) = true:=by simp;omega
      have hv0 : ∃ ad,x0 = some ad ∧ ∀ j,j < L0 → w0.cell? (ad.add j) = some (.int .u8 (b0 j)):=by
        rcases HS0.out with ⟨_,h0⟩ | ⟨ad,c',he,hl,hc⟩
        · omega
        · injection he with e1 e2 e3
          exact ⟨ad,e1,hc⟩
      have hv1 : ∃ ad,x1 = some ad ∧ ∀ j,j < L1 → w0.cell? (ad.add j) = some (.int .u8 (b1 j)):=by
        rcases HS1.out with ⟨_,h0⟩ | ⟨ad,c',he,hl,hc⟩
        · omega
        · injection he with e1 e2 e3
          exact ⟨ad,e1,hc⟩
      obtain ⟨ad0,rfl,hc0⟩:=hv0
      obtain ⟨ad1,rfl,hc1⟩:=hv1
      have hz0:=(HB.out.cell (p:=ad0.add i) (cell_lt (hc0 i hlt))).trans (hc0 i hlt)
      have hz1:=(HB.out.cell (p:=ad1.add i) (cell_lt (hc1 i (by omega)))).trans (hc1 i (by omega))
      have hi0 : (i : Int) < (L0 : Int):=by omega
      have hi1 : (i : Int) < (L1 : Int):=by omega
      have hk:=HI0.out i
      have hr:=HI1.out i
      obtain ⟨D,hD⟩ : ∃ D,D = (d + (i : Int) * 5) % 4294967296:=⟨_,rfl⟩
      have hw1 : IntKind.u32.wrap (d + IntKind.u32.wrap (IntKind.u32.wrap (i : Int) * 5)) = D:=by rw [hD,IntKind.wrap_u32,IntKind.wrap_u32,IntKind.wrap_u32];omega
      have D0 : 0 ≤ D:=by omega
      have D1 : D < 4294967296:=by omega
      clear hD hc0 hc1
      generalize b0 i = K at *
      generalize b1 i = R at *
      have HBY:=Lib.hid (fun W => bytes_any K R D W hk.1 hk.2 D0 D1)
      have lok:=bytesF_ok K R D hr.1 hr.2 D0 D1
      obtain ⟨_,l15⟩:=bytesF_len K R D
      generalize bytesF K R D = Y at *
      have HLB:=Lib.hid (lst_ok lok)
      obtain ⟨⟨I,E⟩,hx⟩ : ∃ x,x = oneF Y.length (lst Y):=⟨_,rfl⟩
      have HON:=Lib.hid (fun v W hv => rone_any v Y.length (lst Y) HLB.out (Nat.le_trans l15 (by decide)) W hv)
      rw [← hx] at HON
      have HX:=Lib.hid hx
      have HZ0:=Lib.hid hz0
      have HZ1:=Lib.hid hz1
      have hlt0 : (ad0.add i).block < wr.heap.size:=cell_lt hz0
      have hlt1 : (ad1.add i).block < wr.heap.size:=cell_lt hz1
      clear hx lok hz0 hz1
      go_upto_region 9 with (fail)
      refine wp_region_mind (γ:=Unit) (by kernel_rfl) (fun i => i == 19) (fun i => if i = 19 then 18 else i) (by kernel_rfl) () (fun u _ => Below wr.heap.size wr u) (fun u _ u' _ => KeptI I u u') (fun j v x u _ => RowV wr (.slice (some ad0) L0 c0) (.slice (some ad1) L1 c1) (ad0.add i) (ad1.add i) i d D K R Y I E j v x u) rowv_stays (fun u _ => kepti_refl I u) ((Below.refl _ wr).drew) ?_ ?_
      · intro j o b u gg ho hinv hsz hbase hdep
        have hj : j < 21:=(Array.getElem?_eq_some_iff.1 ho).1
        have s0 : b.tmps.getD 0 undef = .slice (some ad0) L0 c0:=hbase 0 (by kernel_rfl)
        have s1 : b.tmps.getD 1 undef = .slice (some ad1) L1 c1:=hbase 1 (by kernel_rfl)
        have s2 : b.tmps.getD 2 undef = .int .u32 d:=hbase 2 (by kernel_rfl)
        have s12 : b.tmps.getD 12 undef = .int .i64 i:=hbase 12 (by kernel_rfl)
        have cz0 : u.cell? (ad0.add i) = some (.int .u8 K):=(hinv.cell hlt0).trans HZ0.out
        have cz1 : u.cell? (ad1.add i) = some (.int .u8 R):=(hinv.cell hlt1).trans HZ1.out
        clear hbase hsz
        have h21 : j = 0 ∨ j = 1 ∨ j = 2 ∨ j = 3 ∨ j = 4 ∨ j = 5 ∨ j = 6 ∨ j = 7 ∨ j = 8 ∨ j = 9 ∨ j = 10 ∨ j = 11 ∨ j = 12 ∨ j = 13 ∨ j = 14 ∨ j = 15 ∨ j = 16 ∨ j = 17 ∨ j = 18 ∨ j = 19 ∨ j = 20:=by omega
        rcases h21 with rfl | rfl | rfl | rfl | rfl | rfl | rfl | rfl | rfl | rfl | rfl | rfl | rfl | rfl | rfl | rfl | rfl | rfl | rfl | rfl | rfl
        · cases ho;exact wp_val (by simp [execOp,Act.eval,s0] <;> rfl) ⟨_,(),rfl,hinv,kepti_refl _ _,rfl⟩
        · cases ho;exact wp_val (by simp [execOp,Act.eval,s12] <;> rfl) ⟨_,(),rfl,hinv,kepti_refl _ _,rfl⟩
        · cases ho
          have d1 : b.tmps.getD 43 undef = .slice (some ad0) L0 c0:=hdep 0 (by kernel_rfl)
          have d2 : b.tmps.getD 44 undef = .int .i64 i:=hdep 1 (by kernel_rfl)
          exact wp_val (by simp [execOp,Act.eval,d1,d2,hi0,go_sem] <;> rfl) ⟨_,(),rfl,hinv,kepti_refl _ _,rfl⟩
        · cases ho
          have d1 : b.tmps.getD 45 undef = .pointer (some (ad0.add i)):=hdep 2 (by kernel_rfl)
          exact wp_val (by simp [execOp,Act.eval,d1,cz0,go_sem] <;> rfl) ⟨_,(),rfl,hinv,kepti_refl _ _,rfl⟩
        · cases ho;exact wp_val (by simp [execOp,Act.eval,s1] <;> rfl) ⟨_,(),rfl,hinv,kepti_refl _ _,rfl⟩
        · cases ho;exact wp_val (by simp [execOp,Act.eval,s12] <;> rfl) ⟨_,(),rfl,hinv,kepti_refl _ _,rfl⟩
        · cases ho
          have d1 : b.tmps.getD 47 undef = .slice (some ad1) L1 c1:=hdep 4 (by kernel_rfl)
          have d2 : b.tmps.getD 48 undef = .int .i64 i:=hdep 5 (by kernel_rfl)
          exact wp_val (by simp [execOp,Act.eval,d1,d2,hi1,go_sem] <;> rfl) ⟨_,(),rfl,hinv,kepti_refl _ _,rfl⟩
        · cases ho
          have d1 : b.tmps.getD 49 undef = .pointer (some (ad1.add i)):=hdep 6 (by kernel_rfl)
          exact wp_val (by simp [execOp,Act.eval,d1,cz1,go_sem] <;> rfl) ⟨_,(),rfl,hinv,kepti_refl _ _,rfl⟩
        · cases ho;exact wp_val (by simp [execOp,Act.eval,s2] <;> rfl) ⟨_,(),rfl,hinv,kepti_refl _ _,rfl⟩
        · cases ho;exact wp_val (by simp [execOp,Act.eval,s12] <;> rfl) ⟨_,(),rfl,hinv,kepti_refl _ _,rfl⟩
        · cases ho
          have d1 : b.tmps.getD 52 undef = .int .i64 i:=hdep 9 (by kernel_rfl)
          exact wp_val (by simp [execOp,Act.eval,d1,go_sem] <;> rfl) ⟨_,(),rfl,hinv,kepti_refl _ _,rfl⟩
        · cases ho
          have d1 : b.tmps.getD 53 undef = .int .u32 (IntKind.u32.wrap i):=hdep 10 (by kernel_rfl)
          exact wp_val (by simp [execOp,Act.eval,d1,go_sem] <;> rfl) ⟨_,(),rfl,hinv,kepti_refl _ _,rfl⟩
        · cases ho
          have d1 : b.tmps.getD 51 undef = .int .u32 d:=hdep 8 (by kernel_rfl)
          have d2 : b.tmps.getD 54 undef = .int .u32 (IntKind.u32.wrap (IntKind.u32.wrap i * 5)):=hdep 11 (by kernel_rfl)
          exact wp_val (by simp [execOp,Act.eval,d1,d2,hw1,go_sem] <;> rfl) ⟨_,(),rfl,hinv,kepti_refl _ _,rfl⟩
        · cases ho
          have d1 : b.tmps.getD 46 undef = .int .u8 K:=hdep 3 (by kernel_rfl)
          have d2 : b.tmps.getD 50 undef = .int .u8 R:=hdep 7 (by kernel_rfl)
          have d3 : b.tmps.getD 55 undef = .int .u32 D:=hdep 12 (by kernel_rfl)
          refine wp_call (by simp [execOp,Act.eval,d1,d2,d3,go_sem] <;> rfl) ((HBY.out u).mono ?_)
          rintro e u' ⟨v,rfl,O1,B1⟩
          exact ⟨_,rfl,_,(),rfl,below_step hinv B1,kepti_below B1,O1.slc⟩
        · cases ho
          have d1 : Slc .u8 u (b.tmps.getD 56 undef) Y.length (lst Y):=hdep 13 (by kernel_rfl)
          refine wp_call (by simp [execOp,Act.eval,go_sem] <;> rfl) ((HON.out _ u d1).mono ?_)
          rintro e u' ⟨rfl,B1⟩
          exact ⟨_,rfl,_,(),rfl,below_step hinv B1,kepti_below B1,rfl⟩
        · cases ho
          have d1 : b.tmps.getD 57 undef = insR (I,E):=hdep 14 (by kernel_rfl)
          exact wp_val (by simp [execOp,Act.eval,d1] <;> rfl) ⟨_,(),rfl,hinv,kepti_refl _ _,rfl⟩
        · cases ho
          have d1 : b.tmps.getD 42 undef = insR (I,E):=hdep 15 (by kernel_rfl)
          exact wp_val (by simp [execOp,Act.eval,d1,insR,go_sem] <;> rfl) ⟨_,(),rfl,hinv,kepti_refl _ _,rfl⟩
        · cases ho
          have d1 : b.tmps.getD 42 undef = insR (I,E):=hdep 15 (by kernel_rfl)
          exact wp_val (by simp [execOp,Act.eval,d1,insR,go_sem] <;> rfl) ⟨_,(),rfl,hinv,kepti_refl _ _,rfl⟩
        · cases ho
          exact wp_val (u':=u.alloc (.cells zeroA 27)) (v:=.pointer (some ⟨u.heap.size,0,none⟩)) (by simp [execOp,go_sem] <;> rfl) ⟨_,(),rfl,below_last hinv _,kepti_below (below_last (Below.refl _ _) _),u.heap.size,rfl,hinv.size,.inl (heap_top0 u _ _ rfl)⟩
        · cases ho
          have d1 : b.tmps.getD 58 undef = .agg (insL I).toArray:=hdep 16 (by kernel_rfl)
          obtain ⟨q,q1,q2,q3⟩:=hdep 18 (by kernel_rfl)
          have d2 : b.tmps.getD 13 undef = .pointer (some ⟨q,0,none⟩):=q1
          refine wp_store_mid 27 (.tmp 13) (.tmp 58) rfl q 0 (insL I).toArray d2 d1 (blki_there q3) info_ins (ins_one _) ⟨_,(),rfl,below_setCells q2 _ _ _ hinv,(kepti_put q3).1,q,q1,q2,(kepti_put q3).2⟩
        · cases ho
          have d1 : b.tmps.getD 59 undef = .int .i64 E:=hdep 17 (by kernel_rfl)
          exact wp_val (by simp [execOp,Act.eval,d1] <;> rfl) ⟨_,(),rfl,hinv,kepti_refl _ _,rfl⟩
      · intro ff wc gg hinv hVV
        obtain ⟨q,hq1,hq2,hq3⟩:=hVV 19 (by decide)
        have h13 : ff 18 = .pointer (some ⟨q,0,none⟩):=hq1
        have h14 : ff 20 = .int .i64 E:=hVV 20 (by decide)
        simp only [List.size_toArray,List.length_cons,List.length_nil,Nat.reduceAdd,laid,List.getElem?_toArray,List.getElem?_cons_zero,List.getElem?_cons_succ,Option.bind_some,Act.put,List.setIfInBounds_toArray,List.set_cons_zero,List.set_cons_succ]
        rw [h13,h14]
        have HO1:=Lib.hid (HO.out.below hinv)
        have HB1:=Lib.hid (below_step HB.out hinv)
        have HST:=Lib.hid hq3
        clear hVV hinv hq3 hq1 h13 h14
        by_cases he : E = 0
        · subst he
          have hl18 : (insL I).length = 18:=rfl
          go_wp2_with (first
            | (refine wpList_load_mid rfl 27 (.tmp 13) rfl q 0 rfl (insL I) _ (seen_few _ _ _ _ HST.out) Try.underlying27 rfl info_ins ?_)
            | (at_builtin;refine append_ins rfl (.tmp 62) (.tmp 64) rfl w0.heap.size u11 l rfl (HO1.out.below (below_last (Below.refl _ _) _)) wc.heap.size I rfl (range_fold wc I 27) (by omega) (by have:=HB1.out.size;simp;omega) ?_;intro v5 w5 ho hb' hk' hs';have HO3:=Lib.hid ho;have HB3:=Lib.hid (hb' w0 w0.heap.size (Nat.le_refl _) (below_last HB1.out _) (by have:=HB1.out.size;simp;omega));clear ho hb' hk' hs'))
          go_roundw
          case rel => exact ⟨i + 1,l ++ [I],by omega,by go_num,HO3.out,by simp;omega,fun x hx => (List.mem_append.1 hx).elim (HK.out x) (fun h => by rw [List.mem_singleton.1 h];exact ⟨_,_,HLB.out,HX.out.symm⟩),HB3.out⟩
          case measure => simp [intOf];omega
        · have he1 : (E == 0) = false:=by simpa using he
          go_wp2_with fail
          go_roundw
          case rel => exact ⟨i + 1,l,by omega,by go_num,HO1.out,by omega,HK.out,HB1.out⟩
          case measure => simp [intOf];omega
    · obtain rfl : i = L0:=by omega
      have ll : l.length ≤ 12:=by omega
      obtain ⟨a11,c11,rfl⟩:=HO.out.len
      have h3 : (bad = true ∧ 0 < l.length) ∨ bad = false ∨ (bad = true ∧ l.length = 0):=by
        cases bad
        · exact .inr (.inl rfl)
        · rcases Nat.eq_zero_or_pos l.length with h | h
          · exact .inr (.inr ⟨rfl,h⟩)
          · exact .inl ⟨rfl,h⟩
      rcases h3 with ⟨rfl,hl0⟩ | hgood
      · have hdl : decide ((0 : Int) < (l.length : Int)) = true:=decide_eq_true (by omega)
        obtain ⟨j,hj1,hj2⟩ : ∃ j : Nat,n % (l.length : Int) = (j : Int) ∧ j < l.length:=by
          have h1:=Int.emod_nonneg n (show (l.length : Int) ≠ 0 by omega)
          have h2:=Int.emod_lt_of_pos n (show (0 : Int) < (l.length : Int) by omega)
          obtain ⟨j,hj⟩:=Int.eq_ofNat_of_zero_le h1
          rw [hj] at h2
          exact ⟨j,hj,by omega⟩
        obtain ⟨g,rfl⟩:=HO.out.some_ hl0
        have hji : (j : Int) < (l.length : Int):=by omega
        have hc : wr.cell? ⟨g,j * 18,none⟩ = some (.int .i64 l[j].op):=HO.out.at_ j hj2 0 _ rfl
        have hf : wr.frozen? ⟨g,j * 18,none⟩ = false:=by
          rcases HO.out.2 with ⟨e,_⟩ | ⟨g',cp,cur,e1,e2,e3,e4⟩
          · cases e
          · injection e1 with e1;injection e1 with e1;injection e1 with e1;subst e1
            exact (cell_block e3 (j * 18)).2
        go_wp2_with fail
        have hge : w0.heap.size ≤ g:=HO.out.ge g rfl
        obtain ⟨W,hW⟩ : ∃ W,W = wr.setCell ⟨g,j * 18,none⟩ (.int .i64 0):=⟨_,rfl⟩
        rw [← hW]
        have hOs : OwnI W w0.heap.size (.slice (some ⟨g,0,none⟩) l.length c11) (l.set j { l[j] with op:=0 }):=by rw [hW];exact HO.out.set_op j hj2
        have hBs : Below w0.heap.size w0 W:=by rw [hW];exact HB.out.setCell hge _
        have HA:=Lib.hid (eall_any (l.set j { l[j] with op:=0 }) (fun x hx => (List.mem_or_eq_of_mem_set hx).elim (fun h => (HK.out x h).disp) (fun h => by rw [h];exact (HK.out _ (List.getElem_mem hj2)).disp)) (by rw [List.length_set];omega) w0.heap.size _ W hBs.size hOs)
        have HBs:=Lib.hid hBs
        clear hW hBs hOs hc hf
        refine HA.out.mono ?_
        rintro e w1 ⟨r,hr,v3,rfl,hs3,b3⟩
        obtain rfl : r = ([],22):=by
          rcases hr with ⟨h,_⟩ | ⟨_,h⟩
          · exact absurd (h _ (List.mem_set hj2 _)) (by rw [enc_op0];decide)
          · exact h
        obtain ⟨a3,c3,rfl⟩:=hs3.len
        have HB1:=Lib.hid (below_step HBs.out b3)
        clear hs3 b3 hr
        dsimp only
        go_wp2_with fail
        go_returns
        exact ⟨rfl,below_step HB0.out HB1.out⟩
      · have hall : allOk l:=fun x hx => (HK.out x hx).enc
        have HA:=Lib.hid (eall_any l (fun x hx => (HK.out x hx).disp) (by omega) w0.heap.size _ wr HB.out.size HO.out)
        have hcl:=cat_len hall
        have HALL:=Lib.hid hall
        have HDA:=Lib.hid (fun v W hv => dall_any v (catF l).length (lst (catF l)) (byte_lst (cat_byte hall)) (by omega) W hv)
        rw [all_cat hall] at HDA
        have hml : (l.map fixF).length = l.length:=List.length_map ..
        clear hall hcl
        rcases hgood with rfl | ⟨rfl,hl0⟩
        all_goals
          try (have hdl : decide ((0 : Int) < (l.length : Int)) = false:=decide_eq_false (by omega);have hdl' : decide (0 < l.length) = false:=decide_eq_false (by omega));try clear hl0
          go_wp2_with fail
          refine HA.out.mono ?_
          rintro e w1 ⟨r,hr,v3,rfl,hs3,b3⟩
          obtain rfl : r = (catF l,0):=by
            rcases hr with ⟨_,h⟩ | ⟨h,_⟩
            · exact h
            · exact absurd HALL.out h
          obtain ⟨a3,c3,rfl⟩:=hs3.len
          have HS3:=Lib.hid hs3
          have HO1:=Lib.hid (HO.out.below b3)
          have HB1:=Lib.hid (below_step HB.out b3)
          clear hs3 b3 hr
          dsimp only
          go_wp2_with fail
          refine (HDA.out _ _ HS3.out).mono ?_
          rintro e w2 ⟨v19,rfl,o4,b4⟩
          obtain ⟨a4,c4,rfl⟩:=o4.len
          dsimp only at o4 ⊢
          rw [hml] at o4 ⊢
          have HO4:=Lib.hid o4
          have HO2:=Lib.hid (HO1.out.below b4)
          have HB2:=Lib.hid (below_step HB1.out b4)
          clear o4 b4 HS3
          go_wp2_with fail
          go_loopw [22] (fun v22 wr => ∃ j : Nat,j ≤ l.length ∧ v22 = .int .i64 j ∧ Below w2.heap.size w2 wr) (fun v22 _ => l.length - (intOf v22).toNat)
          case atStart => exact ⟨0,Nat.zero_le _,rfl,Below.refl _ _⟩
          case round =>
            obtain ⟨j,hj,rfl,hbx⟩:=hrel
            have HBX:=Lib.hid hbx
            by_cases hjl : j < l.length
            · have hdj : decide ((j : Int) < (l.length : Int)) = true:=decide_eq_true (by omega)
              have hjk : (j : Int) < (l.length : Int):=by omega
              obtain ⟨g,rfl⟩:=HO.out.some_ (show 0 < l.length by omega)
              obtain ⟨g4,rfl⟩:=HO4.out.some_ (show 0 < l.length by omega)
              obtain ⟨x,hx⟩ : ∃ x,l[j] = x:=⟨_,rfl⟩
              have r4:=(HO4.out.below hbx).at2 hml.symm j (by rw [hml];exact hjl)
              rw [List.getElem_map,hx] at r4
              have r0:=(HO2.out.below hbx).at2 rfl j hjl
              rw [hx] at r0
              have HR4:=Lib.hid r4
              have HR0:=Lib.hid r0
              have hc0 : wr.cell? ⟨g,j * 18 + 17,none⟩ = some (.int .i64 x.len):=r0 17 _ rfl
              have HT:=Lib.hid (there_alloc_new wr zeroA 27 18 (by decide))
              clear r4 r0 hbx
              have hlt17 : g < wr.heap.size:=cell_lt hc0
              go_upto_region 25 with (first
                | (refine wpList_load_mid rfl 27 (.tmp 124) rfl g4 (j * 18) rfl (insL (fixF x)) _ HR4.out Try.underlying27 rfl info_ins ?_)
                | (refine store_ins rfl (.tmp 23) (.tmp 125) rfl wr.heap.size rfl (fixF x) rfl HT.out ?_;intro Y2 hY hl;clear hl;obtain ⟨q1,q2,q3⟩:=stored hY;have HC2:=Lib.hid q1;have HB4:=Lib.hid (below_step HBX.out q2);obtain ⟨c17,f17⟩:=cell_17 HC2.out;have hc1:=(q2.cell (p:=⟨g,j * 18 + 17,none⟩) hlt17).trans hc0;have HQ2:=Lib.hid q2;clear hY q1 q2 q3))
              obtain ⟨W,hW⟩ : ∃ W,W = Y2.setCell ⟨wr.heap.size,17,none⟩ (.int .i64 x.len):=⟨_,rfl⟩
              rw [← hW]
              have rA : W.rangeAt wr.heap.size 0 (insL x):=by rw [hW];exact seen_few _ _ x _ (set_few HC2.out x.len)
              have q4 : Below wr.heap.size wr W:=by rw [hW];exact HQ2.out.setCell (Nat.le_refl _) _
              have rB : W.rangeAt g (j * 18) (insL x):=fun i v h => (q4.cell (p:=⟨g,j * 18 + i,none⟩) hlt17).trans (HR0.out i v h)
              have HBW:=Lib.hid (below_step HBX.out q4)
              clear hW q4 hc0 hc1 c17 f17
              refine wp_region_mind (γ:=Unit) (by kernel_rfl) (fun _ => false) (fun i => i) (by kernel_rfl) () (fun u _ => Below W.heap.size W u) (fun _ _ _ _ => True) (fun k v _ _ _ => RowW x g j l.length c11 k v) (fun _ _ _ _ _ _ _ h _ => h) (fun _ _ => trivial) ((Below.refl _ W).drew) ?_ ?_
              · intro k o b u gg ho hinv hsz hbase hdep
                have hk : k < 6:=(Array.getElem?_eq_some_iff.1 ho).1
                have s11 : b.tmps.getD 11 undef = .slice (some ⟨g,0,none⟩) l.length c11:=hbase 11 (by kernel_rfl)
                have s22 : b.tmps.getD 22 undef = .int .i64 j:=hbase 22 (by kernel_rfl)
                have s23 : b.tmps.getD 23 undef = .pointer (some ⟨wr.heap.size,0,none⟩):=hbase 23 (by kernel_rfl)
                clear hbase hsz
                have h6 : k = 0 ∨ k = 1 ∨ k = 2 ∨ k = 3 ∨ k = 4 ∨ k = 5:=by omega
                rcases h6 with rfl | rfl | rfl | rfl | rfl | rfl
                · cases ho
                  exact wp_load_mid 27 (.tmp 23) rfl wr.heap.size 0 s23 (insL x) _ (fun i v h => (hinv.cell (cell_lt (rA i v h))).trans (rA i v h)) Try.underlying27 rfl info_ins ⟨_,(),rfl,hinv,trivial,rfl⟩
                · cases ho;exact wp_val (by simp [execOp,Act.eval,s11] <;> rfl) ⟨_,(),rfl,hinv,trivial,rfl⟩
                · cases ho;exact wp_val (by simp [execOp,Act.eval,s22] <;> rfl) ⟨_,(),rfl,hinv,trivial,rfl⟩
                · cases ho
                  have d1 : b.tmps.getD 133 undef = .slice (some ⟨g,0,none⟩) l.length c11:=hdep 1 (by kernel_rfl)
                  have d2 : b.tmps.getD 134 undef = .int .i64 j:=hdep 2 (by kernel_rfl)
                  exact wp_val (v:=.pointer (some ⟨g,j * 18,none⟩)) (u':=u) (by simp [execOp,Act.eval,d1,d2,hjk,go_sem] <;> rfl) ⟨_,(),rfl,hinv,trivial,rfl⟩
                · cases ho
                  have d3 : b.tmps.getD 135 undef = .pointer (some ⟨g,j * 18,none⟩):=hdep 3 (by kernel_rfl)
                  exact wp_load_mid 27 (.tmp 135) rfl g (j * 18) d3 (insL x) _ (fun i v h => (hinv.cell (cell_lt (rB i v h))).trans (rB i v h)) Try.underlying27 rfl info_ins ⟨_,(),rfl,hinv,trivial,rfl⟩
                · cases ho
                  have d0 : b.tmps.getD 132 undef = insV x:=hdep 0 (by kernel_rfl)
                  have d4 : b.tmps.getD 136 undef = insV x:=hdep 4 (by kernel_rfl)
                  exact wp_neqD (.tmp 132) (.tmp 136) rfl x d0 d4 ⟨_,(),rfl,hinv,trivial,rfl⟩
              · intro ff u gg hinv hVV
                have h5 : ff 5 = .bool false:=hVV 5 (by decide)
                have HBU:=Lib.hid (below_step HBW.out hinv)
                simp only [List.size_toArray,List.length_cons,List.length_nil,Nat.reduceAdd,laid,List.getElem?_toArray,List.getElem?_cons_zero,List.getElem?_cons_succ,Option.bind_some,Act.put,List.setIfInBounds_toArray,List.set_cons_zero,List.set_cons_succ]
                rw [h5]
                clear hVV h5 hinv rA rB
                go_wp2_with fail
                go_roundw
                case rel => (repeat apply Exists.intro);exact ⟨⟨j + 1,by omega,by go_num,HBU.out⟩,rfl⟩
                case measure => simp [intOf];omega
            · obtain rfl : j = l.length:=by omega
              have hdj : decide ((l.length : Int) < (l.length : Int)) = false:=decide_eq_false (by omega)
              go_wp2_with fail
              go_returns
              exact ⟨rfl,below_step HB0.out (below_step HB2.out HBX.out)⟩
set_option maxRecDepth 512
theorem encodeRows_own : ownKnob Try.prog.godebug = none:=by kernel_rfl
set_option maxRecDepth 100000
theorem encodeRows_lifted (os : Os) (started : os.Started) (H : Type) (enc : TypeId × Value → H) :
    ReturnsInHanded {} Try.checked os 4 .any (Rows.encodeRowsSpec.pre6 enc Try.prog Try.f4 Rows.encodeRowsRow.domain false) (Rows.encodeRowsSpec.post enc Try.prog Try.f4 false true false false):=by
  refine returnsInHanded_of_change (C:=Try.checked) encodeRows_own started (by kernel_rfl) Try.func4
    (ChangeSpec.witness6 (enc:=enc) (C:=Try.checked) false ⟨#[],#[.slice none 0 0,.slice none 0 0,.int .u32 0,.int .u8 0,.bool false],[]⟩ 8 (by kernel_rfl) (by kernel_rfl) (by kernel_rfl) (by kernel_rfl)) ?_
  intro W base args ds gs before hval0 hW hcnd _
  have hval : ∀ (j : Nat) t v,Try.f4.params[j]? = some t → args[j]? = some v → Value.okWide Try.prog W .any base t v:=hval0
  have hW':=hW
  obtain ⟨p,q,hA0,hV,rfl,hfz,hnd⟩:=hW
  have hA : DataW.TrodAll enc Try.prog W 0 (fun _ => true) true Try.f4.params.toList args.toList ds p:=hA0
  rw [Try.params4] at hA hval
  obtain ⟨v0,vs0,d0,ds0,p0,q0,hargs,rfl,rfl,h0,r0⟩:=trodAll_cons hA
  obtain ⟨v1,vs1,d1,ds1,p1,q1,rfl,rfl,rfl,h1,r1⟩:=trodAll_cons r0
  obtain ⟨v2,vs2,d2,ds2,p2,q2,rfl,rfl,rfl,h2,r2⟩:=trodAll_cons r1
  obtain ⟨v3,vs3,d3,ds3,p3,q3,rfl,rfl,rfl,h3,r3⟩:=trodAll_cons r2
  obtain ⟨v4,vs4,d4,ds4,p4,q4,rfl,rfl,rfl,h4,r4⟩:=trodAll_cons r3
  obtain ⟨rfl,rfl,rfl⟩:=trodAll_nil r4
  obtain rfl : args = #[v0,v1,v2,v3,v4]:=by cases args;simp_all
  obtain ⟨rfl,rfl⟩:=trodVars_none hV
  obtain ⟨L0,bs0,hs0,hw0,hL0⟩:=open_slc Try.underlying30 Try.underlying5 (by kernel_rfl) (hval 0 30 v0 rfl rfl) h0
  obtain ⟨L1,bs1,hs1,hw1,hL1⟩:=open_slc Try.underlying30 Try.underlying5 (by kernel_rfl) (hval 1 30 v1 rfl rfl) h1
  obtain ⟨a2,rfl,rfl,rfl,w2⟩:=open_int Try.underlying22 (hval 2 22 v2 rfl rfl) h2
  obtain ⟨a3,rfl,rfl,rfl,w3⟩:=open_int Try.underlying5 (hval 3 5 v3 rfl rfl) h3
  obtain ⟨a4,rfl,rfl,rfl⟩:=open_bool Try.underlying4 (hval 4 4 v4 rfl rfl) h4
  clear hA0 hval0
  simp only [List.append_nil] at hW'
  have b0 : ∀ i,0 ≤ bs0 i ∧ bs0 i < 256:=fun i => by
    have h:=hw0 i
    simp only [Lit.wf,Bool.and_eq_true,decide_eq_true_eq] at h
    have e1 : IntKind.u8.min = 0:=by decide
    have e2 : IntKind.u8.max = 255:=by decide
    omega
  have b1 : ∀ i,0 ≤ bs1 i ∧ bs1 i < 256:=fun i => by
    have h:=hw1 i
    simp only [Lit.wf,Bool.and_eq_true,decide_eq_true_eq] at h
    have e1 : IntKind.u8.min = 0:=by decide
    have e2 : IntKind.u8.max = 255:=by decide
    omega
  have b2 : 0 ≤ a2 ∧ a2 < 4294967296:=by
    have h:=w2
    simp only [Lit.wf,Bool.and_eq_true,decide_eq_true_eq] at h
    have e1 : IntKind.u32.min = 0:=by decide
    have e2 : IntKind.u32.max = 4294967295:=by decide
    omega
  have b3 : 0 ≤ a3 ∧ a3 < 256:=by
    have h:=w3
    simp only [Lit.wf,Bool.and_eq_true,decide_eq_true_eq] at h
    have e1 : IntKind.u8.min = 0:=by decide
    have e2 : IntKind.u8.max = 255:=by decide
    omega
  refine (encrows_walk v0 L0 bs0 v1 L1 bs1 a2 a3 a4 W hs0 b0 hL0 hs1 b1 hL1 b2.1 b2.2 b3.1 b3.2).mono fun e W' ⟨he,hg⟩ => ?_
  subst he
  exact ⟨_,rfl,post_mem hW' rfl (by kernel_rfl) (by kernel_rfl) hg rfl rfl
    (fun _ _ _ => (trodAll_cons_mk (shut_bool Try.underlying4 _) trodAll_mk0)) (ok_one (by kernel_rfl) rfl (okWide_bool_mk Try.underlying4 _))⟩
set_option maxRecDepth 512
theorem encodeRows_holds : Rows.EncodeRowsSaid :=
  OpenClaim.holds_of_wide 4 Try.f4 rfl rfl rfl rfl rfl rfl rfl ⟨rfl,rfl,rfl,rfl,rfl⟩ rfl rfl rfl rfl rfl (by kernel_rfl) Try.func4 (by kernel_rfl)
    (of_decide_eq_true (by kernel_rfl)) (by unfold Func.isWrapper;first | (rw [if_pos (by decide +kernel)];kernel_rfl) | (rw [if_neg (by decide +kernel)];exact ⟨rfl,rfl⟩))
    (fun os started H enc _ => encodeRows_lifted os started H enc)
#print axioms encodeRows_holds
end Go.Proofs.Ytlnahkkemjgjbaa
