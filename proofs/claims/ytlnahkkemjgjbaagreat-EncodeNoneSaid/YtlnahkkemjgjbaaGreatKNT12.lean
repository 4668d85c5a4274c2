import Derived.Test.YtlnahkkemjgjbaaGreatKNO11
import Derived.Test.YtlnahkkemjgjbaaGreatKNT11
import Derived.Test.YtlnahkkemjgjbaaGreatKNW
namespace Go.Proofs.YtlnahkkemjgjbaaGreat
open Go.ChangeShapes Go.WideShapes Go.ChangeAt Go.RowKit
set_option maxRecDepth 100000
set_option maxHeartbeats 16000000
theorem tried_any (x:Ins) (hN reg:Int) (hm:hN ∈ hdN) (r0:0 ≤ reg) (r1:reg < 8) (hxc:0 ≤ x.c∧x.c < 4294967296) (hxa:0 ≤ x.a.disp∧x.a.disp < 4294967296) (hxb:0 ≤ x.b.disp∧x.b.disp < 4294967296) (v:Value) (w:World) (hs:Slc .u8 w v (spelledF hN).length (lst (spelledF hN)))
    (HF:∀ c u,0 ≤ c→c < 256→Calls Tryz.prog 13 #[.int .u8 c,.int .i64 reg,.bool false] u fun e u'=>e=.returned (fstL (firstF c reg false))∧Below u.heap.size u u')
    (HSc:∀ p c u,(p=0 ∨ p=242 ∨ p=102)→0 ≤ c→c < 256→Calls Tryz.prog 14 #[.int .u8 p,.int .u8 c] u fun e u'=>e=.returned (secL (secondF p c))∧Below u.heap.size u u') :
    Calls Tryz.prog 22 #[v,.int .i64 reg,insV x] w (TryR w (triedF hN reg x)):=by
  obtain ⟨a0,c0,rfl⟩:=hs.len
  obtain ⟨n,hn⟩:∃ n,(spelledF hN).length=n:=⟨_,rfl⟩
  obtain ⟨bs,hbs⟩:∃ bs,lst (spelledF hN)=bs:=⟨_,rfl⟩
  rw [hn,hbs] at hs
  rw [hn]
  have HS:=Lib.hid hs
  have HF:=Lib.hid HF
  have HSc:=Lib.hid HSc
  have HM:=Lib.hid hm
  have HN:=Lib.hid hn
  have HBS:=Lib.hid hbs
  have HR:=Lib.hid (And.intro r0 r1)
  have hxc:=Lib.hid hxc
  have hxa:=Lib.hid hxa
  have hxb:=Lib.hid hxb
  clear hs hm hn hbs r0 r1
  unfold insV insC
  go_enter Tryz.func22,Tryz.ntmps22
  go_upto_block 0 with fail
  go_cut [9] (fun s9 wx=>s9=.bool (frmK hN reg x).2∧TS w x (frmC (frmK hN reg x).1) wx)
  case first =>
    rcases hd_kind HM.out with ⟨h0,h1,h2⟩ | ⟨k,k0,k1,hk⟩
    · have hK:frmK hN reg x=((firstF hN reg false).1,(firstF hN reg false).2.1):=by unfold frmK;rw [if_pos h1]
      have HFF:=Lib.hid (fun u=>HF.out hN u h0 h1)
      generalize firstF hN reg false=y at *
      obtain ⟨F,ok,wr⟩:=y
      unfold fstL at HFF
      dsimp only at HFF hK
      have HK:=Lib.hid hK
      obtain rfl:n=1:=by rw [← HN.out,spelled_1 hN h0 h1];rfl
      obtain ⟨ad,rfl,hcap,hc⟩:=slc_some HS.out (by decide)
      have hc0:w.cell? ad=some (.int .u8 hN):=by
        have:=hc 0 (by decide)
        rw [← HBS.out,spelled_1 hN h0 h1] at this
        simpa [Addr.add,lst] using this
      have hA0:∀ o o',((w.alloc o).alloc o').cell? ad=some (.int .u8 hN):=fun o o'=>cell_alloc (cell_alloc hc0)
      clear hc hc0 h2 hK h0 h1
      as_aux_lemma =>
      go_wp2_with fail
      refine (HFF.out _).mono ?_
      rintro e w2 ⟨rfl,hb⟩
      have HTS:=Lib.hid (TS.start (x:=x) hb)
      clear hb
      go_wp2_with (refine store_row rfl 45 (.tmp 8) (.tmp 41) rfl (w.heap.size+1) rfl [.int .i64 F.op,.int .i64 F.cond,.int .i64 F.size,.string ⟨F.how.toArray⟩,.int .i64 F.c] rfl _ Tryz.underlying45 rfl info_form (by simp [Value.oneCell']) HTS.out.zero ?_;intro Y hY hl;clear hl;have HTY:=Lib.hid (HTS.out.put hY);have q0:=(cell_block HTY.out.bf 0).1;have q1:=(cell_block HTY.out.bx 0).1;have q2:=(cell_block HTY.out.bx 16).1;simp [frmC,insC] at q0 q1 q2;clear hY)
      go_meet
      exact ⟨by rw [HK.out],by rw [HK.out];exact HTY.out⟩
    · have hb:∀ l:List Int,spelledF hN=l→l.length=n∧lst l=bs:=fun l hl=>by rw [← hl];exact ⟨HN.out,HBS.out⟩
      rcases (show hN=15 * 256+k ∨ (∃ p,(p=242 ∨ p=102)∧hN=p * 65536+15 * 256+k) ∨ hN=243 * 256+k from hk.elim .inl (fun h=>h.elim (fun h=>.inr (.inl ⟨242,.inl rfl,h⟩)) (fun h=>h.elim (fun h=>.inr (.inl ⟨102,.inr rfl,h⟩)) (fun h=>.inr (.inr h))))) with rfl | ⟨p,hp,rfl⟩ | rfl
      · have hK:=k0F k reg x k0 k1
        have HFF:=Lib.hid (fun u=>HSc.out 0 k u (.inl rfl) k0 k1)
        generalize secondF 0 k=y at *
        obtain ⟨F,ok⟩:=y
        unfold secL at HFF
        dsimp only at HFF
        have HK:=Lib.hid hK
        obtain rfl:n=2:=(hb _ (spelled_2 15 k (by decide) (by decide) k0 k1)).1.symm
        obtain rfl:=(hb _ (spelled_2 15 k (by decide) (by decide) k0 k1)).2
        obtain ⟨ad,rfl,hcap,hc⟩:=slc_some HS.out (by decide)
        have hc0:w.cell? ad=some (.int .u8 15):=by have:=hc 0 (by decide);simpa [Addr.add,lst] using this
        have hc1:w.cell? ⟨ad.block,ad.off+1,none⟩=some (.int .u8 k):=hc 1 (by decide)
        have hA0:∀ o o',((w.alloc o).alloc o').cell? ad=some (.int .u8 15):=fun o o'=>cell_alloc (cell_alloc hc0)
        have hA1:∀ o o',((w.alloc o).alloc o').cell? ⟨ad.block,ad.off+1,none⟩=some (.int .u8 k):=fun o o'=>cell_alloc (cell_alloc hc1)
        clear hc hc0 hc1 hK hb
        as_aux_lemma =>
        go_wp2_with fail
        refine (HFF.out _).mono ?_
        rintro e w2 ⟨rfl,hb⟩
        have HTS:=Lib.hid (TS.start (x:=x) hb)
        clear hb
        go_wp2_with (refine store_row rfl 45 (.tmp 8) (.tmp 80) rfl (w.heap.size+1) rfl [.int .i64 F.op,.int .i64 F.cond,.int .i64 F.size,.string ⟨F.how.toArray⟩,.int .i64 F.c] rfl _ Tryz.underlying45 rfl info_form (by simp [Value.oneCell']) HTS.out.zero ?_;intro Y hY hl;clear hl;have HTY:=Lib.hid (HTS.out.put hY);have q0:=(cell_block HTY.out.bf 0).1;have q1:=(cell_block HTY.out.bx 0).1;have q2:=(cell_block HTY.out.bx 16).1;simp [frmC,insC] at q0 q1 q2;clear hY)
        go_meet
        exact ⟨by rw [HK.out],by rw [HK.out];exact HTY.out⟩
      · have hK:=kPP p k reg x hp k0 k1
        have HFF:=Lib.hid (fun u=>HSc.out p k u (.inr hp) k0 k1)
        have np1:(p == 243)=false:=by rcases hp with rfl | rfl <;> rfl
        have np2:(p == 15)=false:=by rcases hp with rfl | rfl <;> rfl
        generalize secondF p k=y at *
        obtain ⟨F,ok⟩:=y
        unfold secL at HFF
        dsimp only at HFF
        have HK:=Lib.hid hK
        have h3:=hb _ (spelled_3 p 15 k (by omega) (by omega) (by decide) (by decide) k0 k1)
        obtain rfl:n=3:=h3.1.symm
        obtain rfl:=h3.2
        obtain ⟨ad,rfl,hcap,hc⟩:=slc_some HS.out (by decide)
        have hc0:w.cell? ad=some (.int .u8 p):=by have:=hc 0 (by decide);simpa [Addr.add,lst] using this
        have hc2:w.cell? ⟨ad.block,ad.off+2,none⟩=some (.int .u8 k):=hc 2 (by decide)
        have hA0:∀ o o',((w.alloc o).alloc o').cell? ad=some (.int .u8 p):=fun o o'=>cell_alloc (cell_alloc hc0)
        have HC:=Lib.hid (And.intro hc0 hc2)
        have hlt0:=cell_lt hc0
        have hlt2:=cell_lt hc2
        clear hc hc0 hc2 hK hb h3 hp
        go_wp2_with fail
        refine wp_region_mind (γ:=Unit) (by kernel_rfl) (fun i=>i == 10) (fun i=>i) (by kernel_rfl) () (fun u _=>∃ C,TS w x C u∧(C=frmZ ∨ C=frmC F)) (fun u _ u' _=>TS w x (frmC F) u→TS w x (frmC F) u') (fun i v _ u _=>TryV w x F ok ad c0 p k i v u) (fun _ _ _ _ _ _ _ h hg=>tryv_stays h hg) (fun _ _ h=>h) ⟨frmZ,TS.drawn (Below.refl _ _),.inl rfl⟩ ?_ ?_
        · intro i o b u gg ho hinv hsz hbase hdep
          have hi:i < 12:=(Array.getElem?_eq_some_iff.1 ho).1
          have s0:b.tmps.getD 0 undef=.slice (some ad) 3 c0:=hbase 0 (by kernel_rfl)
          have s8:b.tmps.getD 8 undef=.pointer (some ⟨w.heap.size+1,0,none⟩):=hbase 8 (by kernel_rfl)
          have hbel:Below w.heap.size w u:=by obtain ⟨C,hT,_⟩:=hinv;exact hT.bel
          have z0:=(hbel.cell hlt0).trans HC.out.1
          have z2:=(hbel.cell (p:=⟨ad.block,ad.off+2,none⟩) hlt2).trans HC.out.2
          clear hbase hsz
          have h12:i=0 ∨ i=1 ∨ i=2 ∨ i=3 ∨ i=4 ∨ i=5 ∨ i=6 ∨ i=7 ∨ i=8 ∨ i=9 ∨ i=10 ∨ i=11:=by omega
          rcases h12 with rfl | rfl | rfl | rfl | rfl | rfl | rfl | rfl | rfl | rfl | rfl | rfl
          · cases ho;exact wp_val (by simp [execOp,Act.eval,s0] <;> rfl) ⟨_,(),rfl,hinv,id,rfl⟩
          · cases ho
            have d1:b.tmps.getD 22 undef=.slice (some ad) 3 c0:=hdep 0 (by kernel_rfl)
            exact wp_val (by simp [execOp,Act.eval,d1,go_sem] <;> rfl) ⟨_,(),rfl,hinv,id,rfl⟩
          · cases ho
            have d1:b.tmps.getD 23 undef=.pointer (some ad):=hdep 1 (by kernel_rfl)
            exact wp_val (by simp [execOp,Act.eval,d1,z0,go_sem] <;> rfl) ⟨_,(),rfl,hinv,id,rfl⟩
          · cases ho;exact wp_val (by simp [execOp,Act.eval,s0] <;> rfl) ⟨_,(),rfl,hinv,id,rfl⟩
          · cases ho
            have d1:b.tmps.getD 25 undef=.slice (some ad) 3 c0:=hdep 3 (by kernel_rfl)
            exact wp_val (by simp [execOp,Act.eval,d1,go_sem] <;> rfl) ⟨_,(),rfl,hinv,id,rfl⟩
          · cases ho
            have d1:b.tmps.getD 26 undef=.pointer (some ⟨ad.block,ad.off+2,none⟩):=hdep 4 (by kernel_rfl)
            exact wp_val (by simp [execOp,Act.eval,d1,z2,go_sem] <;> rfl) ⟨_,(),rfl,hinv,id,rfl⟩
          · cases ho
            have d1:b.tmps.getD 24 undef=.int .u8 p:=hdep 2 (by kernel_rfl)
            have d2:b.tmps.getD 27 undef=.int .u8 k:=hdep 5 (by kernel_rfl)
            refine wp_call (by simp [execOp,Act.eval,d1,d2,go_sem] <;> rfl) ((HFF.out u).mono ?_)
            rintro e u' ⟨rfl,B1⟩
            obtain ⟨C,hT,hC⟩:=hinv
            exact ⟨_,rfl,_,(),rfl,⟨C,hT.on B1,hC⟩,fun h=>h.on B1,rfl⟩
          · cases ho
            have d1:b.tmps.getD 28 undef=.tuple #[.agg (frmC F),.bool ok]:=hdep 6 (by kernel_rfl)
            exact wp_val (by simp [execOp,Act.eval,d1] <;> rfl) ⟨_,(),rfl,hinv,id,rfl⟩
          · cases ho
            have d1:b.tmps.getD 21 undef=.tuple #[.agg (frmC F),.bool ok]:=hdep 7 (by kernel_rfl)
            exact wp_val (by simp [execOp,Act.eval,d1,go_sem] <;> rfl) ⟨_,(),rfl,hinv,id,rfl⟩
          · cases ho
            have d1:b.tmps.getD 21 undef=.tuple #[.agg (frmC F),.bool ok]:=hdep 7 (by kernel_rfl)
            exact wp_val (by simp [execOp,Act.eval,d1,go_sem] <;> rfl) ⟨_,(),rfl,hinv,id,rfl⟩
          · cases ho
            have d1:b.tmps.getD 29 undef=.agg (frmC F):=hdep 8 (by kernel_rfl)
            obtain ⟨C,hT,hC⟩:=hinv
            have ht:u.there (w.heap.size+1) 0 5:=there_block hT.bf 0 5 (by rcases hC with rfl | rfl <;> exact Nat.le_refl 5)
            refine wp_store_mid 45 (.tmp 8) (.tmp 29) rfl (w.heap.size+1) 0 (frmC F) s8 d1 ht info_form (by simp [frmC,Value.oneCell']) ⟨_,(),rfl,⟨frmC F,hT.put2 hC rfl,.inr rfl⟩,fun _=>hT.put2 hC rfl,hT.put2 hC rfl⟩
          · cases ho
            have d1:b.tmps.getD 30 undef=.bool ok:=hdep 9 (by kernel_rfl)
            exact wp_val (by simp [execOp,Act.eval,d1] <;> rfl) ⟨_,(),rfl,hinv,id,rfl⟩
        · intro ff u gg hinv hVV
          have HT:=Lib.hid (show TS w x (frmC F) u from hVV 10 (by decide))
          have h11:ff 11=.bool ok:=hVV 11 (by decide)
          simp only [List.size_toArray,List.length_cons,List.length_nil,Nat.reduceAdd,laid,List.getElem?_toArray,List.getElem?_cons_zero,List.getElem?_cons_succ,Option.bind_some,Act.put,List.setIfInBounds_toArray,List.set_cons_zero,List.set_cons_succ]
          rw [h11]
          clear hinv hVV h11
          go_wp2_with fail
          go_meet
          exact ⟨by rw [HK.out],by rw [HK.out];exact HT.out⟩
      · have hK:=kF3 k reg x k0 k1
        have HFF:=Lib.hid (fun u=>HF.out k u k0 k1)
        generalize firstF k reg false=y at *
        obtain ⟨F,ok,wr⟩:=y
        unfold fstL at HFF
        dsimp only at HFF hK
        have HK:=Lib.hid hK
        obtain rfl:n=2:=(hb _ (spelled_2 243 k (by decide) (by decide) k0 k1)).1.symm
        obtain rfl:=(hb _ (spelled_2 243 k (by decide) (by decide) k0 k1)).2
        obtain ⟨ad,rfl,hcap,hc⟩:=slc_some HS.out (by decide)
        have hc0:w.cell? ad=some (.int .u8 243):=by have:=hc 0 (by decide);simpa [Addr.add,lst] using this
        have hc1:w.cell? ⟨ad.block,ad.off+1,none⟩=some (.int .u8 k):=hc 1 (by decide)
        have hA0:∀ o o',((w.alloc o).alloc o').cell? ad=some (.int .u8 243):=fun o o'=>cell_alloc (cell_alloc hc0)
        have hA1:∀ o o',((w.alloc o).alloc o').cell? ⟨ad.block,ad.off+1,none⟩=some (.int .u8 k):=fun o o'=>cell_alloc (cell_alloc hc1)
        clear hc hc0 hc1 hK hb
        as_aux_lemma =>
        go_wp2_with fail
        refine (HFF.out _).mono ?_
        rintro e w2 ⟨rfl,hb⟩
        have HTS:=Lib.hid (TS.start (x:=x) hb)
        clear hb
        cases ok with
        | false =>
          go_wp2_with (refine store_row rfl 45 (.tmp 8) (.tmp 55) rfl (w.heap.size+1) rfl [.int .i64 F.op,.int .i64 F.cond,.int .i64 F.size,.string ⟨F.how.toArray⟩,.int .i64 F.c] rfl _ Tryz.underlying45 rfl info_form (by simp [Value.oneCell']) HTS.out.zero ?_;intro Y hY hl;clear hl;have HTY:=Lib.hid (HTS.out.put hY);have q0:=(cell_block HTY.out.bf 0).1;have q1:=(cell_block HTY.out.bx 0).1;have q2:=(cell_block HTY.out.bx 16).1;simp [frmC,insC] at q0 q1 q2;clear hY)
          go_meet
          exact ⟨by rw [HK.out];rfl,by rw [HK.out];exact HTY.out⟩
        | true =>
          cases hop:(F.op == x.op) with
          | false =>
            go_wp2_with (refine store_row rfl 45 (.tmp 8) (.tmp 55) rfl (w.heap.size+1) rfl [.int .i64 F.op,.int .i64 F.cond,.int .i64 F.size,.string ⟨F.how.toArray⟩,.int .i64 F.c] rfl _ Tryz.underlying45 rfl info_form (by simp [Value.oneCell']) HTS.out.zero ?_;intro Y hY hl;clear hl;have HTY:=Lib.hid (HTS.out.put hY);have q0:=(cell_block HTY.out.bf 0).1;have q1:=(cell_block HTY.out.bx 0).1;have q2:=(cell_block HTY.out.bx 16).1;simp [frmC,insC] at q0 q1 q2;clear hY)
            go_meet
            exact ⟨by rw [HK.out,hop];rfl,by rw [HK.out];exact HTY.out⟩
          | true =>
            go_wp2_with (refine store_row rfl 45 (.tmp 8) (.tmp 55) rfl (w.heap.size+1) rfl [.int .i64 F.op,.int .i64 F.cond,.int .i64 F.size,.string ⟨F.how.toArray⟩,.int .i64 F.c] rfl _ Tryz.underlying45 rfl info_form (by simp [Value.oneCell']) HTS.out.zero ?_;intro Y hY hl;clear hl;have HTY:=Lib.hid (HTS.out.put hY);have q0:=(cell_block HTY.out.bf 0).1;have q1:=(cell_block HTY.out.bx 0).1;have q2:=(cell_block HTY.out.bx 16).1;simp [frmC,insC] at q0 q1 q2;clear hY)
            go_meet
            exact ⟨by rw [HK.out,hop];rfl,by rw [HK.out];exact HTY.out⟩
  case rest =>
  obtain ⟨rfl,hT⟩:=hcut
  obtain ⟨⟨F,ok⟩,hK⟩:∃ y,frmK hN reg x=y:=⟨_,rfl⟩
  rw [hK] at hT ⊢
  have HTF:=Lib.hid (frmT_K HM.out hK)
  have HW:=Lib.hid (fun f rep=>how_le (f:=f) (rep:=rep) HM.out HR.out.1 HR.out.2)
  clear hK
  dsimp only at hT ⊢
  have q0:wc.cell? ⟨w.heap.size+1,0,none⟩=some (.int .i64 F.op):=(cell_block hT.bf 0).1
  have q1:wc.cell? ⟨w.heap.size+1,1,none⟩=some (.int .i64 F.cond):=(cell_block hT.bf 1).1
  have q2:wc.cell? ⟨w.heap.size+1,2,none⟩=some (.int .i64 F.size):=(cell_block hT.bf 2).1
  have p0:wc.cell? ⟨w.heap.size,0,none⟩=some (.int .i64 x.op):=(cell_block hT.bx 0).1
  have p1:wc.cell? ⟨w.heap.size,1,none⟩=some (.int .i64 x.cond):=(cell_block hT.bx 1).1
  have p2:wc.cell? ⟨w.heap.size,2,none⟩=some (.int .i64 x.size):=(cell_block hT.bx 2).1
  have HT:=Lib.hid hT
  clear hT
  by_cases hall:ok=true∧F.op=x.op∧F.size=x.size∧F.cond=x.cond
  rotate_left
  · have hno:triedF hN reg x=none:=by unfold triedF;rw [HTF.out,if_neg hall];rfl
    have HNO:=Lib.hid hno
    rcases (show ok=false ∨ (ok=true∧(F.op != x.op)=true) ∨ (ok=true∧(F.op != x.op)=false∧(F.size != x.size)=true) ∨ (ok=true∧(F.op != x.op)=false∧(F.size != x.size)=false∧(F.cond != x.cond)=true) by cases ok <;> simp at hall ⊢;omega) with rfl | ⟨rfl,e1⟩ | ⟨rfl,e1,e2⟩ | ⟨rfl,e1,e2,e3⟩
    all_goals
      as_aux_lemma =>
      clear hall hno
      go_wp2_with fail
      go_returns
      exact ⟨_,by rw [HNO.out];rfl,by rw [HNO.out];exact .inl ⟨rfl,rfl⟩,HT.out.bel⟩
  have hall':=hall
  obtain ⟨rfl,e1,e2,e3⟩:=hall
  have hTR:triedF hN reg x=(runT F reg x F.how ⟨0,none,[]⟩).bind fun s=>match s.rm with
      | none=>some (spelledF hN ++ s.tl)
      | some rm=>if putOk reg rm then some ((spelledF hN ++ putF reg rm) ++ s.tl) else none:=by
    unfold triedF
    rw [HTF.out,if_pos hall']
    rfl
  have HTR:=Lib.hid hTR
  have b1:(F.op != x.op)=false:=by simp [e1]
  have b2:(F.size != x.size)=false:=by simp [e2]
  have b3:(F.cond != x.cond)=false:=by simp [e3]
  have hl4:F.how.length ≤ 4:=howK_le HM.out HR.out.1 HR.out.2 HTF.out hall'
  clear e1 e2 e3 hall' hTR
  have hn0:0 < n:=by rw [← HN.out];exact spelled_pos hN
  obtain ⟨ad,rfl,hcap,hc⟩:=slc_some HS.out hn0
  have HHS:=Lib.hid (show Slc .u8 wc (.slice (some ad) n c0) (spelledF hN).length (lst (spelledF hN)) by rw [HBS.out,HN.out];exact HS.out.below HT.out.bel)
  have HLN:=Lib.hid (show (spelledF hN).length ≤ 3 from spelled_le hN)
  clear hc hcap hn0
  go_upto_region 14 with (at_builtin;refine append_row8 rfl (.const (.slice none 0 0)) (.tmp 105) rfl w.heap.size _ _ [] (spelledF hN) rfl (World.ownsRow_nil _ _ _ _) rfl HHS.out (spelled_pos hN) (by have:=HLN.out;simp;omega) HT.out.bel.size ?_;intro v10 w13 hown hgr;have HB13:=Lib.hid (show Below wc.heap.size wc w13 from (Below.refl _ _).grown hgr (Nat.le_refl _) (fun k hk=>by cases hk));have HOW:=Lib.hid hown;have HTS:=Lib.hid (HT.out.on HB13.out);clear hown hgr)
  have HA:=Lib.hid (range_ins HTS.out.bx 3 [.int .i64 x.a.kind,.int .i64 x.a.reg,.int .i64 x.a.base,.int .i64 x.a.index,.int .i64 x.a.scale,.int .u32 x.a.disp] rfl)
  have HB:=Lib.hid (range_ins HTS.out.bx 9 [.int .i64 x.b.kind,.int .i64 x.b.reg,.int .i64 x.b.base,.int .i64 x.b.index,.int .i64 x.b.scale,.int .u32 x.b.disp] rfl)
  go_upto_region 15 with (first
    | (refine wpList_load_mid rfl 24 (.tmp 107) rfl w.heap.size 3 rfl [.int .i64 x.a.kind,.int .i64 x.a.reg,.int .i64 x.a.base,.int .i64 x.a.index,.int .i64 x.a.scale,.int .u32 x.a.disp] _ HA.out Tryz.underlying24 rfl info_o6 ?_)
    | (refine wpList_load_mid rfl 24 (.tmp 109) rfl w.heap.size 9 rfl [.int .i64 x.b.kind,.int .i64 x.b.reg,.int .i64 x.b.base,.int .i64 x.b.index,.int .i64 x.b.scale,.int .u32 x.b.disp] _ HB.out Tryz.underlying24 rfl info_o6 ?_))
  have HTL:=Lib.hid (TL.start HTS.out HOW.out)
  clear HHS
  go_wp2_with fail
  go_loopw [12,14,15,16] (fun v12 v14 v15 v16 wr=>∃ (n:Nat) (s:Tst),n ≤ F.how.length∧v16=.int .i64 n∧runT F reg x (F.how.take n) ⟨0,none,[]⟩=some s∧v12=.int .i64 s.k∧v14=.bool s.rm.isSome∧OwnZ wr (w13.heap.size+2) v15 s.tl∧TL w w13 x F v10 (spelledF hN) (s.rm.getD zeroO) wr) (fun _ _ _ v16 _=>F.how.length - (intOf v16).toNat)
  case atStart=>exact ⟨0,⟨0,none,[]⟩,Nat.zero_le _,rfl,rfl,rfl,rfl,OwnZ.nil _ _,HTL.out⟩
  case round =>
    obtain ⟨m,s,hm,rfl,hrun,rfl,rfl,htl,hTL⟩:=hrel
    have HRU:=Lib.hid hrun
    have HZ:=Lib.hid htl
    have HT2:=Lib.hid hTL
    obtain ⟨S,hS⟩:∃ S:ByteArray,S=⟨F.how.toArray⟩:=⟨_,rfl⟩
    have hSS:=Lib.hid hS
    have hSz:S.size=F.how.length:=by rw [hS];rfl
    have c3:wr.cell? ⟨w.heap.size+1,3,none⟩=some (.string S):=by rw [hS];exact (cell_block hTL.bf 3).1
    clear hrun htl hTL hS
    by_cases hlt:m < F.how.length
    · have d1:decide ((m:Int) < (F.how.length:Int))=true:=decide_eq_true (by omega)
      have hmS:m < S.size:=by omega
      obtain ⟨c,hcs⟩:∃ c,S[m]'hmS=c:=⟨_,rfl⟩
      have HC:=Lib.hid (show F.how[m]?=some c by rw [List.getElem?_eq_getElem hlt,← hcs];congr 1;have:=hSS.out;subst this;rfl)
      have hsk:=runT_len HRU.out
      have HLT:=Lib.hid (show s.tl.length ≤ 16∧s.k ≤ 4 by have h1:=hsk.1;have h2:=hsk.2.2;rw [List.length_take] at h1 h2;have e:(([]:List Int)).length=0:=rfl;simp only at h1 h2;omega)
      have c15:wr.cell? ⟨w.heap.size,15,none⟩=some (.int .u32 x.c):=(cell_block HT2.out.bx 15).1
      have c2:wr.cell? ⟨w.heap.size+1,2,none⟩=some (.int .i64 F.size):=(cell_block HT2.out.bf 2).1
      have HCS:=Lib.hid hcs
      clear hsk hcs
      by_cases hL:c=76
      · have hx:(((S[m]'hmS).toNat:Nat):Int)=76:=by rw [HCS.out,hL];rfl
        have hL:=Lib.hid hL
        as_aux_lemma =>
        have HP:=Lib.hid (rput4_any x.c hxc.out.1 hxc.out.2)
        go_wp2_with (first
          | (go_at_call 43;(with_reducible refine (HP.out _).mono ?_);rintro e w' ⟨rfl,rfl⟩)
          | (at_builtin;refine append_ownY rfl (.tmp 126) (.tmp 129) rfl (w13.heap.size+2) u15 _ s.tl (lowF x.c 4) rfl rfl (HZ.out.below (below_last (Below.refl _ _) _)) (put4_slc wr _ rfl x.c hxc.out.1 hxc.out.2) (by have:=HLT.out;rw [low_len];omega) (by have:=HT2.out.lt;simp;omega) ?_;intro v' w' hv hw hs;have HV:=Lib.hid hv;have HW':=Lib.hid (hw wr ((Below.refl (w13.heap.size+2) wr).alloc HT2.out.lt _));clear hv hw hs))
        go_roundw
        case rel=>exact ⟨m+1,⟨s.k,s.rm,s.tl ++ lowF x.c 4⟩,by omega,by go_num,by rw [runT_next HC.out HRU.out];rw [hL.out];rfl,by go_num,rfl,HV.out,HT2.out.on HW'.out⟩
        case measure=>simp [intOf];omega
      by_cases hB:c=66
      · have hx:(((S[m]'hmS).toNat:Nat):Int)=66:=by rw [HCS.out,hB];rfl
        have hB:=Lib.hid hB
        as_aux_lemma =>
        go_wp2_with (at_builtin;refine append_ownY rfl (.tmp 133) (.tmp 137) rfl (w13.heap.size+2) u15 _ s.tl (lowF x.c 1) rfl rfl (HZ.out.below (below_last (Below.refl _ _) _)) (low1_slc wr _ rfl x.c) (by have:=HLT.out;rw [low_len];omega) (by have:=HT2.out.lt;simp;omega) ?_;intro v' w' hv hw hs;have HV:=Lib.hid hv;have HW':=Lib.hid (hw wr ((Below.refl (w13.heap.size+2) wr).alloc HT2.out.lt _));clear hv hw hs)
        go_roundw
        case rel=>exact ⟨m+1,⟨s.k,s.rm,s.tl ++ lowF x.c 1⟩,by omega,by go_num,by rw [runT_next HC.out HRU.out];rw [hB.out];rfl,by go_num,rfl,HV.out,HT2.out.on HW'.out⟩
        case measure=>simp [intOf];omega
      obtain ⟨z,hz⟩:∃ z:Int,((c.toNat:Nat):Int)=z:=⟨_,rfl⟩
      have hx:(((S[m]'hmS).toNat:Nat):Int)=z:=by rw [HCS.out];exact hz
      have nz:∀ L:UInt8,c ≠ L→(z == ((L.toNat:Nat):Int))=false:=fun L hL=>by
        rw [← hz]
        simp only [beq_eq_false_iff_ne,ne_eq]
        intro h
        exact hL (UInt8.toNat_inj.1 (by omega))
      have n76:(z == 76)=false:=nz 76 hL
      have n66:(z == 66)=false:=nz 66 hB
      have hLB:=Lib.hid (And.intro hL hB)
      have NZ:=Lib.hid nz
      have HZc:=Lib.hid hz
      clear hL hB nz hz
      obtain ⟨o,ho⟩:∃ o,opT x s.k=o:=⟨_,rfl⟩
      have HOd:=Lib.hid (show 0 ≤ o.disp∧o.disp < 4294967296 by rw [← ho];unfold opT;split;exact hxa.out;exact hxb.out)
      have HoT:=Lib.hid ho
      have HOA:=Lib.hid (range_ins HT2.out.bo 0 [.int .i64 x.a.kind,.int .i64 x.a.reg,.int .i64 x.a.base,.int .i64 x.a.index,.int .i64 x.a.scale,.int .u32 x.a.disp] rfl)
      have HOB:=Lib.hid (range_ins HT2.out.bo 6 [.int .i64 x.b.kind,.int .i64 x.b.reg,.int .i64 x.b.base,.int .i64 x.b.index,.int .i64 x.b.scale,.int .u32 x.b.disp] rfl)
      clear ho
      go_upto_region 26 with fail
      go_cut [12,18] (fun s12 s18 wx=>s12=.int .i64 s.k∧s18=.pointer (some ⟨wr.heap.size,0,none⟩)∧wx=wr.alloc (.cells (opC o) 24))
      case first =>
        rcases (show s.k=0 ∨ s.k=1 ∨ 1 < s.k by omega) with hk | hk | hk
        · have hkk:(s.k:Int)=0:=by omega
          obtain rfl:x.a=o:=by rw [← HoT.out,hk];rfl
          clear hk
          go_wp2_with (refine wpList_load_mid rfl 24 (.tmp 142) rfl w13.heap.size 0 rfl [.int .i64 x.a.kind,.int .i64 x.a.reg,.int .i64 x.a.base,.int .i64 x.a.index,.int .i64 x.a.scale,.int .u32 x.a.disp] _ HOA.out Tryz.underlying24 rfl info_o6 ?_)
          go_meet
          exact ⟨by rw [hkk],rfl,rfl⟩
        · have hkk:(s.k:Int)=1:=by omega
          obtain rfl:x.b=o:=by rw [← HoT.out,hk];rfl
          clear hk
          go_wp2_with (refine wpList_load_mid rfl 24 (.tmp 142) rfl w13.heap.size 6 rfl [.int .i64 x.b.kind,.int .i64 x.b.reg,.int .i64 x.b.base,.int .i64 x.b.index,.int .i64 x.b.scale,.int .u32 x.b.disp] _ HOB.out Tryz.underlying24 rfl info_o6 ?_)
          go_meet
          exact ⟨by rw [hkk],rfl,rfl⟩
        · have hkk:(1:Int) < (s.k:Int):=by omega
          obtain rfl:x.b=o:=by rw [← HoT.out];unfold opT;rw [if_neg (by omega)]
          clear hk
          go_wp2_with (refine wpList_load_mid rfl 24 (.tmp 142) rfl w13.heap.size 6 rfl [.int .i64 x.b.kind,.int .i64 x.b.reg,.int .i64 x.b.base,.int .i64 x.b.index,.int .i64 x.b.scale,.int .u32 x.b.disp] _ HOB.out Tryz.underlying24 rfl info_o6 ?_)
          go_meet
          exact ⟨rfl,rfl,rfl⟩
      case rest =>
      obtain ⟨rfl,rfl,rfl⟩:=hcut
      have hk4:IntKind.i64.wrap ((s.k:Int)+1)=(s.k:Int)+1:=by have:=HLT.out;rw [IntKind.wrap_i64];omega
      have c3':∀ ob,(wr.alloc ob).cell? ⟨w.heap.size+1,3,none⟩=some (.string S):=fun ob=>cell_alloc c3
      have c2':∀ ob,(wr.alloc ob).cell? ⟨w.heap.size+1,2,none⟩=some (.int .i64 F.size):=fun ob=>cell_alloc c2
      unfold opC
      go_upto_block 3 with fail
      have HP:=Lib.hid (rput4_any o.disp HOd.out.1 HOd.out.2)
      by_cases hE:isEE c=true
      · have hq:=NZ.out
        have hS1:=Lib.hid (step_E (f:=F) (reg:=reg) hE HoT.out)
        have HZ3:=Lib.hid (HZ.out.below (below_last (Below.refl _ _) (.cells (opC o) 24)))
        have HT3:=Lib.hid (HT2.out.on ((Below.refl (w13.heap.size+2) wr).alloc HT2.out.lt (.cells (opC o) 24)))
        have HTH:=Lib.hid (there_block HT3.out.br 0 6 (by show 6 ≤ 6;decide))
        have H18:=Lib.hid (heap_1 wr (.cells (opC o) 24))
        have hne:wr.heap.size ≠ w13.heap.size+1:=by have:=HT2.out.lt;omega
        have HNE:=Lib.hid hne
        have ez:(z == 69)=true ∨ ((z == 69)=false∧(z == 101)=true) ∨ ((z == 69)=false∧(z == 101)=false∧(z == 89)=true):=by
          rw [← HZc.out]
          unfold isEE at hE
          simp only [Bool.or_eq_true,beq_iff_eq] at hE
          rcases hE with (rfl | rfl) | rfl
          · exact .inl rfl
          · exact .inr (.inl ⟨rfl,rfl⟩)
          · exact .inr (.inr ⟨rfl,rfl,rfl⟩)
        clear hE hq hne
        go_upto_if 150 with (fail)
        go_cut [150] (fun s150 wx=>s150=.bool true∧wr.alloc (.cells (opC o) 24)=wx)
        case first =>
          rcases ez with z1 | ⟨z1,z2⟩ | ⟨z1,z2,z3⟩
          all_goals
            go_wp2_with fail
            go_meet
            exact ⟨by first | rfl | rw [z1],rfl⟩
        case rest =>
        obtain ⟨rfl,rfl⟩:=hcut
        unfold opC
        rcases (show (o.kind == 2)=true ∨ ((o.kind == 2)=false∧(o.kind == 5)=true) ∨ ((o.kind == 2)=false∧(o.kind == 5)=false) by cases (o.kind == 2) <;> cases (o.kind == 5) <;> simp) with y1 | ⟨y1,y2⟩ | ⟨y1,y2⟩
        all_goals
          as_aux_lemma =>
          go_wp2_with (refine store_row rfl 24 (.tmp 13) (.tmp 154) rfl (w13.heap.size+1) rfl [.int .i64 o.kind,.int .i64 o.reg,.int .i64 o.base,.int .i64 o.index,.int .i64 o.scale,.int .u32 o.disp] rfl _ Tryz.underlying24 rfl info_o6 (by simp [Value.oneCell']) HTH.out ?_;intro Y hY hl;clear hl;have HY:=Lib.hid (TL.store HT3.out HZ3.out o hY);have g0:Y.cell? ⟨wr.heap.size,0,none⟩=some (.int .i64 o.kind):=(cell_block ((show Y.heap[wr.heap.size]?=_ by rw [hY];exact other_setCells HNE.out _ _ _).trans H18.out) 0).1;obtain ⟨g1,g2⟩:=cell_block HY.out.1.br 0;have g1:Y.cell? ⟨w13.heap.size+1,0,none⟩=some (.int .i64 o.kind):=g1;clear hY)
          go_roundw
          case rel =>
            first
              | exact ⟨m+1,_,by omega,by go_num,(runT_next HC.out HRU.out).trans hS1.out,by go_num,rfl,HY.out.2,by rw [show plainO o=o by unfold plainO;rw [if_neg (by simp at y1 y2;omega)]];exact HY.out.1⟩
              | exact ⟨m+1,_,by omega,by go_num,(runT_next HC.out HRU.out).trans hS1.out,by go_num,rfl,(TL.kind HY.out.1 HY.out.2).2,by rw [show plainO o={ o with kind:=1 } by unfold plainO;rw [if_pos (by simp at y1;omega)]];exact (TL.kind HY.out.1 HY.out.2).1⟩
              | exact ⟨m+1,_,by omega,by go_num,(runT_next HC.out HRU.out).trans hS1.out,by go_num,rfl,(TL.kind HY.out.1 HY.out.2).2,by rw [show plainO o={ o with kind:=1 } by unfold plainO;rw [if_pos (by simp at y2;omega)]];exact (TL.kind HY.out.1 HY.out.2).1⟩
          case measure=>simp [intOf];omega
      have hE':isEE c=false:=by simpa using hE
      have e69:(z == 69)=false:=NZ.out 69 (fun h=>hE (by rw [h];rfl))
      have e101:(z == 101)=false:=NZ.out 101 (fun h=>hE (by rw [h];rfl))
      have e89:(z == 89)=false:=NZ.out 89 (fun h=>hE (by rw [h];rfl))
      have HE:=Lib.hid hE'
      have HT3:=Lib.hid (HT2.out.on ((Below.refl (w13.heap.size+2) wr).alloc HT2.out.lt (.cells (opC o) 24)))
      have HZ3:=Lib.hid (HZ.out.below (below_last (Below.refl _ _) (.cells (opC o) 24)))
      clear hE hE'
      by_cases hG:isG c=true
      · have ez:(z == 71)=true ∨ ((z == 71)=false∧(z == 103)=true) ∨ ((z == 71)=false∧(z == 103)=false∧(z == 88)=true):=by
          rw [← HZc.out]
          have hG':=hG
          unfold isG at hG'
          simp only [Bool.or_eq_true,beq_iff_eq] at hG'
          rcases hG' with (rfl | rfl) | rfl
          · exact .inl rfl
          · exact .inr (.inl ⟨rfl,rfl⟩)
          · exact .inr (.inr ⟨rfl,rfl,rfl⟩)
        go_upto_if 164 with (fail)
        go_cut [164] (fun s164 wx=>s164=.bool true∧wr.alloc (.cells (opC o) 24)=wx)
        case first =>
          rcases ez with z1 | ⟨z1,z2⟩ | ⟨z1,z2,z3⟩
          all_goals
            go_wp2_with fail
            go_meet
            exact ⟨by first | rfl | rw [z1],rfl⟩
        case rest =>
        obtain ⟨rfl,rfl⟩:=hcut
        unfold opC
        by_cases hr:o.reg=reg
        · have hrb:(o.reg != reg)=false:=by simp [hr]
          have hS1:=Lib.hid (step_G2 (f:=F) hG HoT.out hr)
          clear hG hr
          as_aux_lemma =>
          go_wp2_with fail
          go_roundw
          case rel=>exact ⟨m+1,_,by omega,by go_num,(runT_next HC.out HRU.out).trans hS1.out,by go_num,rfl,HZ3.out,HT3.out⟩
          case measure=>simp [intOf];omega
        · have hrb:(o.reg != reg)=true:=by simp [hr]
          have hno:triedF hN reg x=none:=by rw [HTR.out,runT_stop HC.out HRU.out (step_G1 hG HoT.out hr)];rfl
          have HNO:=Lib.hid hno
          clear hG hr hno
          as_aux_lemma =>
          go_wp2_with fail
          go_returns
          exact ⟨_,by rw [HNO.out];rfl,by rw [HNO.out];exact .inl ⟨rfl,rfl⟩,HT3.out.bel⟩
      have hG':isG c=false:=by simpa using hG
      have e71:(z == 71)=false:=NZ.out 71 (fun h=>hG (by rw [h];rfl))
      have e103:(z == 103)=false:=NZ.out 103 (fun h=>hG (by rw [h];rfl))
      have e88:(z == 88)=false:=NZ.out 88 (fun h=>hG (by rw [h];rfl))
      have HG:=Lib.hid hG'
      clear hG hG'
      by_cases h73:c=73
      · have z1:(z == 73)=true:=by rw [← HZc.out,h73];rfl
        by_cases h4:F.size=4
        · have hs4:(F.size == 4)=true:=by simp [h4]
          have hS1:=Lib.hid (step_N (f:=F) (reg:=reg) 4 hLB.out HE.out HG.out HoT.out (by rw [h73];unfold needF;rw [if_pos rfl,if_pos h4]))
          clear h73 h4
          as_aux_lemma =>
          go_wp2_with (first
            | (go_at_call 43;(with_reducible refine (HP.out _).mono ?_);rintro e w' ⟨rfl,rfl⟩)
            | (at_builtin;refine append_ownY rfl (.tmp 177) (.tmp 180) rfl (w13.heap.size+2) u15 _ s.tl (lowF o.disp 4) rfl rfl (HZ.out.below (below_last (below_last (Below.refl _ _) _) _)) (put4_slc (wr.alloc (.cells (opC o) 24)) (wr.heap.size+1) (by simp) o.disp HOd.out.1 HOd.out.2) (by have:=HLT.out;rw [low_len];omega) (by have:=HT2.out.lt;simp;omega) ?_;intro v' w' hv hw hs;have HV:=Lib.hid hv;have HW':=Lib.hid (hw wr (((Below.refl (w13.heap.size+2) wr).alloc HT2.out.lt _).alloc (by have:=HT2.out.lt;simp;omega) _));clear hv hw hs)
            | (at_builtin;refine append_ownY rfl (.tmp 177) (.tmp 180) rfl (w13.heap.size+2) u15 _ s.tl (lowF o.disp 4) rfl rfl (HZ.out.below (below_last (below_last (Below.refl _ _) _) _)) (put4_slc (wr.alloc (.cells (opC o) 24)) _ rfl o.disp HOd.out.1 HOd.out.2) (by have:=HLT.out;rw [low_len];omega) (by have:=HT2.out.lt;simp;omega) ?_;intro v' w' hv hw hs;have HV:=Lib.hid hv;have HW':=Lib.hid (hw wr (((Below.refl (w13.heap.size+2) wr).alloc HT2.out.lt _).alloc (by have:=HT2.out.lt;simp;omega) _));clear hv hw hs))
          go_roundw
          case rel=>exact ⟨m+1,_,by omega,by go_num,(runT_next HC.out HRU.out).trans hS1.out,by go_num,rfl,HV.out,HT2.out.on HW'.out⟩
          case measure=>simp [intOf];omega
        · have hs4:(F.size == 4)=false:=by simp [h4]
          have hS1:=Lib.hid (step_N (f:=F) (reg:=reg) 1 hLB.out HE.out HG.out HoT.out (by rw [h73];unfold needF;rw [if_pos rfl,if_neg h4]))
          clear h73 h4
          as_aux_lemma =>
          go_wp2_with (at_builtin;refine append_ownY rfl (.tmp 182) (.tmp 186) rfl (w13.heap.size+2) u15 _ s.tl (lowF o.disp 1) rfl rfl (HZ.out.below (below_last (below_last (Below.refl _ _) _) _)) (low1_slc _ _ (by simp) o.disp) (by have:=HLT.out;rw [low_len];omega) (by have:=HT2.out.lt;simp;omega) ?_;intro v' w' hv hw hs;have HV:=Lib.hid hv;have HW':=Lib.hid (hw wr (((Below.refl (w13.heap.size+2) wr).alloc HT2.out.lt _).alloc (by have:=HT2.out.lt;simp;omega) _));clear hv hw hs)
          go_roundw
          case rel=>exact ⟨m+1,_,by omega,by go_num,(runT_next HC.out HRU.out).trans hS1.out,by go_num,rfl,HV.out,HT2.out.on HW'.out⟩
          case measure=>simp [intOf];omega
      have n73:(z == 73)=false:=NZ.out 73 h73
      by_cases h98:c=98
      · have z1:(z == 98)=true:=by rw [← HZc.out,h98];rfl
        have hS1:=Lib.hid (step_N (f:=F) (reg:=reg) 1 hLB.out HE.out HG.out HoT.out (by rw [h98];rfl))
        clear h98 h73
        as_aux_lemma =>
        go_wp2_with (at_builtin;refine append_ownY rfl (.tmp 190) (.tmp 194) rfl (w13.heap.size+2) u15 _ s.tl (lowF o.disp 1) rfl rfl (HZ.out.below (below_last (below_last (Below.refl _ _) _) _)) (low1_slc _ _ (by simp) o.disp) (by have:=HLT.out;rw [low_len];omega) (by have:=HT2.out.lt;simp;omega) ?_;intro v' w' hv hw hs;have HV:=Lib.hid hv;have HW':=Lib.hid (hw wr (((Below.refl (w13.heap.size+2) wr).alloc HT2.out.lt _).alloc (by have:=HT2.out.lt;simp;omega) _));clear hv hw hs)
        go_roundw
        case rel=>exact ⟨m+1,_,by omega,by go_num,(runT_next HC.out HRU.out).trans hS1.out,by go_num,rfl,HV.out,HT2.out.on HW'.out⟩
        case measure=>simp [intOf];omega
      have n98:(z == 98)=false:=NZ.out 98 h98
      by_cases h119:c=119
      · have z1:(z == 119)=true:=by rw [← HZc.out,h119];rfl
        have hS1:=Lib.hid (step_N (f:=F) (reg:=reg) 2 hLB.out HE.out HG.out HoT.out (by rw [h119];rfl))
        clear h119 h98 h73
        as_aux_lemma =>
        go_wp2_with (at_builtin;refine append_ownY rfl (.tmp 198) (.tmp 206) rfl (w13.heap.size+2) u15 _ s.tl (lowF o.disp 2) rfl rfl (HZ.out.below (below_last (below_last (Below.refl _ _) _) _)) (low2_slc _ _ (by simp) o.disp) (by have:=HLT.out;rw [low_len];omega) (by have:=HT2.out.lt;simp;omega) ?_;intro v' w' hv hw hs;have HV:=Lib.hid hv;have HW':=Lib.hid (hw wr (((Below.refl (w13.heap.size+2) wr).alloc HT2.out.lt _).alloc (by have:=HT2.out.lt;simp;omega) _));clear hv hw hs)
        go_roundw
        case rel=>exact ⟨m+1,_,by omega,by go_num,(runT_next HC.out HRU.out).trans hS1.out,by go_num,rfl,HV.out,HT2.out.on HW'.out⟩
        case measure=>simp [intOf];omega
      have n119:(z == 119)=false:=NZ.out 119 h119
      by_cases h105:c=105 ∨ c=109
      · have ez:(z == 105)=true ∨ ((z == 105)=false∧(z == 109)=true):=by
          rw [← HZc.out]
          rcases h105 with rfl | rfl
          · exact .inl rfl
          · exact .inr ⟨rfl,rfl⟩
        have hS1:=Lib.hid (step_N (f:=F) (reg:=reg) 4 hLB.out HE.out HG.out HoT.out (by rcases h105 with h | h <;> rw [h] <;> rfl))
        clear h105 h119 h98 h73
        rcases ez with z1 | ⟨z1,z2⟩
        all_goals
          as_aux_lemma =>
          go_wp2_with (first
            | (go_at_call 43;(with_reducible refine (HP.out _).mono ?_);rintro e w' ⟨rfl,rfl⟩)
            | (at_builtin;refine append_ownY rfl (.tmp 211) (.tmp 214) rfl (w13.heap.size+2) u15 _ s.tl (lowF o.disp 4) rfl rfl (HZ.out.below (below_last (below_last (Below.refl _ _) _) _)) (put4_slc (wr.alloc (.cells (opC o) 24)) (wr.heap.size+1) (by simp) o.disp HOd.out.1 HOd.out.2) (by have:=HLT.out;rw [low_len];omega) (by have:=HT2.out.lt;simp;omega) ?_;intro v' w' hv hw hs;have HV:=Lib.hid hv;have HW':=Lib.hid (hw wr (((Below.refl (w13.heap.size+2) wr).alloc HT2.out.lt _).alloc (by have:=HT2.out.lt;simp;omega) _));clear hv hw hs)
            | (at_builtin;refine append_ownY rfl (.tmp 211) (.tmp 214) rfl (w13.heap.size+2) u15 _ s.tl (lowF o.disp 4) rfl rfl (HZ.out.below (below_last (below_last (Below.refl _ _) _) _)) (put4_slc (wr.alloc (.cells (opC o) 24)) _ rfl o.disp HOd.out.1 HOd.out.2) (by have:=HLT.out;rw [low_len];omega) (by have:=HT2.out.lt;simp;omega) ?_;intro v' w' hv hw hs;have HV:=Lib.hid hv;have HW':=Lib.hid (hw wr (((Below.refl (w13.heap.size+2) wr).alloc HT2.out.lt _).alloc (by have:=HT2.out.lt;simp;omega) _));clear hv hw hs))
          go_roundw
          case rel=>exact ⟨m+1,_,by omega,by go_num,(runT_next HC.out HRU.out).trans hS1.out,by go_num,rfl,HV.out,HT2.out.on HW'.out⟩
          case measure=>simp [intOf];omega
      have n105:(z == 105)=false:=NZ.out 105 (fun h=>h105 (.inl h))
      have n109:(z == 109)=false:=NZ.out 109 (fun h=>h105 (.inr h))
      have hS1:=Lib.hid (step_0' (f:=F) (reg:=reg) hLB.out HE.out HG.out HoT.out (by unfold needF;rw [if_neg h73,if_neg (fun h=>h.elim h98 hLB.out.2),if_neg h119,if_neg (fun h=>h.elim (fun h=>h105 (.inl h)) (fun h=>h.elim hLB.out.1 (fun h=>h105 (.inr h))))]))
      clear h105 h119 h98 h73
      as_aux_lemma =>
      go_wp2_with fail
      go_roundw
      case rel=>exact ⟨m+1,_,by omega,by go_num,(runT_next HC.out HRU.out).trans hS1.out,by go_num,rfl,HZ3.out,HT3.out⟩
      case measure=>simp [intOf];omega
    · have d1:decide ((m:Int) < (F.how.length:Int))=false:=decide_eq_false (by omega)
      have hra:runT F reg x F.how ⟨0,none,[]⟩=some s:=by have h:=HRU.out;rwa [List.take_of_length_le (by omega)] at h
      have hTR2:triedF hN reg x=match s.rm with
          | none=>some (spelledF hN ++ s.tl)
          | some rm=>if putOk reg rm then some ((spelledF hN ++ putF reg rm) ++ s.tl) else none:=by rw [HTR.out,hra];rfl
      have HLT:=Lib.hid (show s.tl.length ≤ 16 by have h1:=(runT_len hra).1;have e:(([]:List Int)).length=0:=rfl;simp only at h1;omega)
      have HRD:=Lib.hid (runT_rm hxa.out hxb.out hra (fun o ho=>by cases ho))
      rcases (show s.rm=none ∨ ∃ rm,s.rm=some rm by cases s.rm <;> simp) with hrm | ⟨rm,hrm⟩
      · have HTT:=Lib.hid (show triedF hN reg x=some (spelledF hN ++ s.tl) by rw [hTR2,hrm])
        have hrs:s.rm.isSome=false:=by rw [hrm];rfl
        rw [hrs]
        have HOB:=Lib.hid (row_own HT2.out.b10 (spelled_pos hN))
        clear hra hTR2 hrm hrs
        as_aux_lemma =>
        go_wp2_with (at_builtin;refine append_ownA rfl (.tmp 228) (.tmp 229) rfl w.heap.size v10 u15 (spelledF hN) s.tl rfl rfl HOB.out HZ.out.slc (by have:=HLT.out;have:=HLN.out;omega) HT2.out.bel.size ?_;intro v' w' hv hv0 hw hs;have HV:=Lib.hid hv;have HW':=Lib.hid hw;clear hv hv0 hw hs)
        go_returns
        exact ⟨_,by rw [HTT.out];rfl,by rw [HTT.out];exact HV.out.slc,HW'.out w HT2.out.bel⟩
      · have hT3:TL w w13 x F v10 (spelledF hN) rm wr:=by have h:=HT2.out;rw [hrm] at h;exact h
        have hrs:s.rm.isSome=true:=by rw [hrm];rfl
        rw [hrs]
        have hrd:=HRD.out rm hrm
        have HPR:=Lib.hid hT3.br
        have HRM:=Lib.hid (range_ins hT3.br 0 [.int .i64 rm.kind,.int .i64 rm.reg,.int .i64 rm.base,.int .i64 rm.index,.int .i64 rm.scale,.int .u32 rm.disp] rfl)
        have HT4:=Lib.hid hT3
        have hpu:=rput_any reg rm hrd.1 hrd.2
        rw [show opV rm=.agg #[.int .i64 rm.kind,.int .i64 rm.reg,.int .i64 rm.base,.int .i64 rm.index,.int .i64 rm.scale,.int .u32 rm.disp] from rfl] at hpu
        by_cases hp:putOk reg rm
        · have HTT:=Lib.hid (show triedF hN reg x=some ((spelledF hN ++ putF reg rm) ++ s.tl) by rw [hTR2,hrm];exact if_pos hp)
          simp only [if_pos hp] at hpu
          have HPU:=Lib.hid hpu
          have HPP:=Lib.hid (show 0 < (putF reg rm).length∧(putF reg rm).length ≤ 6 from ⟨put_pos reg rm,put_le reg rm⟩)
          clear hra hTR2 hrm hrs hpu hp hrd hT3
          as_aux_lemma =>
          go_wp2_with (refine wpList_load_mid rfl 24 (.tmp 13) rfl (w13.heap.size+1) 0 rfl [.int .i64 rm.kind,.int .i64 rm.reg,.int .i64 rm.base,.int .i64 rm.index,.int .i64 rm.scale,.int .u32 rm.disp] _ HRM.out Tryz.underlying24 rfl info_o6 ?_)
          ((with_reducible refine (HPU.out _).mono ?_);rintro e w2 ⟨vx,rfl,hsx,hb2⟩)
          have HSX:=Lib.hid hsx
          have HB2:=Lib.hid hb2
          have HZ2:=Lib.hid (HZ.out.below hb2)
          have HOW2:=Lib.hid (row_keep HT4.out.b10 (fun k hk=>hb2.block k (by have:=HT4.out.o2 k hk;have:=HT4.out.lt;omega)))
          clear hsx hb2
          go_wp2_with (first
            | (at_builtin;refine append_row8 rfl (.tmp 225) (.tmp 226) rfl w.heap.size v10 vx (spelledF hN) (putF reg rm) rfl HOW2.out rfl HSX.out HPP.out.1 (by have:=HLN.out;have:=HPP.out;omega) (Nat.le_trans HT4.out.bel.size HB2.out.size) ?_;intro v3 w3 ho3 hg3;have HO3:=Lib.hid (row_own ho3 (by rw [List.length_append];have:=HPP.out;omega));have HZ3:=Lib.hid (ownz_keep HZ2.out hg3.size (fun k h1 h2=>hg3.block k h2 (fun e=>by have:=HT4.out.o2 k e.symm;omega)));have HB3:=Lib.hid ((below_step HT4.out.bel HB2.out).grown hg3 (Nat.le_trans HT4.out.bel.size HB2.out.size) (fun k hk=>(World.ownsRow.lt HOW2.out k hk).1));clear ho3 hg3)
            | (at_builtin;refine append_ownA rfl (.tmp 228) (.tmp 229) rfl w.heap.size v3 u15 (spelledF hN ++ putF reg rm) s.tl rfl rfl HO3.out HZ3.out.slc (by rw [List.length_append];have:=HLT.out;have:=HLN.out;have:=HPP.out;omega) HB3.out.size ?_;intro v' w' hv hv0 hw hs;have HV:=Lib.hid hv;have HW':=Lib.hid hw;clear hv hv0 hw hs))
          go_returns
          exact ⟨_,by rw [HTT.out];rfl,by rw [HTT.out];exact HV.out.slc,HW'.out w HB3.out⟩
        · have HTT:=Lib.hid (show triedF hN reg x=none by rw [hTR2,hrm];exact if_neg hp)
          simp only [if_neg hp] at hpu
          have HPU:=Lib.hid hpu
          clear hra hTR2 hrm hrs hpu hp hrd hT3
          as_aux_lemma =>
          go_wp2_with (refine wpList_load_mid rfl 24 (.tmp 13) rfl (w13.heap.size+1) 0 rfl [.int .i64 rm.kind,.int .i64 rm.reg,.int .i64 rm.base,.int .i64 rm.index,.int .i64 rm.scale,.int .u32 rm.disp] _ HRM.out Tryz.underlying24 rfl info_o6 ?_)
          ((with_reducible refine (HPU.out _).mono ?_);rintro e w2 ⟨vx,rfl,hsx,hb2⟩)
          have HB2:=Lib.hid hb2
          clear hsx hb2
          go_wp2_with fail
          go_returns
          exact ⟨_,by rw [HTT.out];rfl,by rw [HTT.out];exact .inl ⟨rfl,rfl⟩,below_step HT4.out.bel HB2.out⟩
set_option maxRecDepth 512
theorem OwnR.at_ {w:World} {base:Nat} {v:Value} {LL:List (List Int)} (h:OwnR w base v LL) (h0:0 < LL.length):∃ g cap,v=.slice (some ⟨g,0,none⟩) LL.length cap∧g < w.heap.size∧LL.length ≤ cap∧∀ j,j < LL.length→∃ z,w.cell? ⟨g,j,none⟩=some z∧HRow w z (LL.getD j []):=by
  obtain ⟨S,h1,⟨h2,h3⟩,h4⟩:=h
  rcases h3 with ⟨_,e⟩ | ⟨g,cap,cur,rfl,e2,e3,e4,e5,e6,e7⟩
  · omega
  · refine ⟨g,cap,rfl,(Array.getElem?_eq_some_iff.1 e3).1,e4,fun j hj=>⟨S.getD j undef,?_,h4 j hj⟩⟩
    have hs:S[j]?=cur[j]?:=by rw [← e7,List.getElem?_take,if_pos (by omega)];simp
    rw [(cell_block e3 j).1,← hs,List.getD_eq_getElem?_getD,List.getElem?_eq_getElem (by omega)]
    rfl
def EncS (w:World) (n:Int) (e:Ending) (w':World):Prop:=∃ v,e=.returned (.tuple #[v,.int .i64 n])∧Below w.heap.size w w'
def NoR (x:Ins) (hN:Int) (r:Nat):Prop:=∀ reg:Nat,reg < r→∀ E,triedF hN reg x=some E→isF' x E=false
def NoH (x:Ins) (n:Nat):Prop:=∀ j,j < n→NoR x (hdN.getD j 0) 8
theorem NoR.next {x:Ins} {hN:Int} {r:Nat} (h:NoR x hN r) (h2:∀ E,triedF hN r x=some E→isF' x E=false):NoR x hN (r+1):=fun reg hr E hE=>by
  by_cases e:reg=r
  · subst e;exact h2 E hE
  · exact h reg (by omega) E hE
theorem NoH.next {x:Ins} {n:Nat} {hN:Int} (h:NoH x n) (e:hdN.getD n 0=hN) (h2:NoR x hN 8):NoH x (n+1):=fun j hj=>by
  by_cases e':j=n
  · subst e';rw [e];exact h2
  · exact h j (by omega)
theorem NoH.all {x:Ins} (h:NoH x 1276):encF x=([],22):=enc_tried fun hN hm reg r0 r1 E hE=>by
  obtain ⟨j,hj,rfl⟩:=List.getElem_of_mem hm
  have hn:=h j (by rw [← hd_len];exact hj) reg.toNat (by omega) E
  rw [List.getD_eq_getElem?_getD,List.getElem?_eq_getElem hj] at hn
  exact hn (by rw [show ((reg.toNat:Nat):Int)=reg by omega];exact hE)
theorem hd_row (n:Nat) (hn:n < 1276):headsR.getD n []=spelledF (hdN.getD n 0)∧hdN.getD n 0 ∈ hdN:=by
  have hl:n < hdN.length:=by rw [hd_len];exact hn
  rw [heads_num]
  simp only [List.getD_eq_getElem?_getD,List.getElem?_map,List.getElem?_eq_getElem hl,Option.map_some,Option.getD_some]
  exact ⟨trivial,List.getElem_mem hl⟩
set_option maxRecDepth 100000
theorem rencode_any (x:Ins) (hxc:0 ≤ x.c∧x.c < 4294967296) (hxa:0 ≤ x.a.disp∧x.a.disp < 4294967296) (hxb:0 ≤ x.b.disp∧x.b.disp < 4294967296) (w:World):Calls Tryz.prog 10 #[insV x] w (EncS w (encF x).2):=by
  have HTD:=Lib.hid (fun (hN:Int) (r:Nat) (hm:hN ∈ hdN) (h8:r < 8) v w hs=>tried_any x hN (r:Int) hm (by omega) (by omega) hxc hxa hxb v w hs (fun c u c0 c1=>first_any c r false c0 c1 (by omega) (by omega) u) (fun p c u hp c0 c1=>second_any p c hp c0 c1 u))
  rw [show insV x=.agg (insL x).toArray from rfl] at HTD
  clear hxc hxa hxb
  obtain ⟨res,hres⟩:∃ r,(encF x).2=r:=⟨_,rfl⟩
  rw [hres]
  have HRES:=Lib.hid hres
  clear hres
  unfold insV
  go_enter Tryz.func10,Tryz.ntmps10
  go_wp2_with fail
  refine (rheads_any _).mono ?_
  rintro e w1 ⟨v1,rfl,hR,hb1⟩
  obtain ⟨g,cap,rfl,hg,hcap,hcells⟩:=hR.at_ (by rw [heads_num,List.length_map,hd_len];decide)
  have hl:headsR.length=1276:=by rw [heads_num,List.length_map,hd_len]
  rw [hl] at hcap hcells ⊢
  have HCL:=Lib.hid hcells
  have HG:=Lib.hid hg
  have HK:=Lib.hid (show w1.heap[w.heap.size]?=some (.cells (insC x) 26 (0,0)) by rw [hb1.block _ (by simp)];exact made_at _ _ _)
  have HB1:=Lib.hid (below_first hb1)
  clear hR hb1 hl hcells hg
  go_wp2_with fail
  go_loopw [5] (fun v5 wr=>∃ n:Nat,n ≤ 1276∧v5=.int .i64 n∧Below w1.heap.size w1 wr∧NoH x n) (fun v5 _=>1276 - (intOf v5).toNat)
  case atStart=>exact ⟨0,by omega,rfl,Below.refl _ _,fun j hj=>absurd hj (Nat.not_lt_zero _)⟩
  case round =>
    obtain ⟨n,hn,rfl,hbo,hno⟩:=hrel
    obtain ⟨wo,hwo⟩:∃ wo:World,wo=wr:=⟨_,rfl⟩
    subst hwo
    have HBO:=Lib.hid hbo
    have HNO:=Lib.hid hno
    clear hbo hno
    by_cases hlt:n < 1276
    · have d1:decide ((n:Int) < 1276)=true:=decide_eq_true (by omega)
      obtain ⟨z,hz,B,rfl,hB⟩:=HCL.out n hlt
      obtain ⟨e1,e2⟩:=hd_row n hlt
      obtain ⟨hN,hhN⟩:∃ h,hdN.getD n 0=h:=⟨_,rfl⟩
      rw [e1] at hz hB
      rw [hhN] at e2 hz hB
      have HN:=Lib.hid hhN
      have HM:=Lib.hid e2
      have HS:=Lib.hid (show Slc .u8 wo (.slice (some ⟨B,0,none⟩) (spelledF hN).length (spelledF hN).length) (spelledF hN).length (lst (spelledF hN)) from HRow.slc ⟨B,rfl,(HBO.out.block B (Array.getElem?_eq_some_iff.1 hB).1).trans hB⟩)
      have hc:wo.cell? ⟨g,n,none⟩=some (.slice (some ⟨B,0,none⟩) (spelledF hN).length (spelledF hN).length):=(HBO.out.cell (p:=⟨g,n,none⟩) HG.out).trans hz
      have hn0:(n:Int) < 1276:=by omega
      clear hz hB e1 e2 hhN
      go_wp2_with fail
      clear hc d1
      go_loopw [7] (fun v7 wr=>∃ r:Nat,r ≤ 8∧v7=.int .i64 r∧Below wo.heap.size wo wr∧NoR x hN r) (fun v7 _=>8 - (intOf v7).toNat)
      case atStart=>exact ⟨0,by omega,rfl,Below.refl _ _,fun j hj=>absurd hj (Nat.not_lt_zero _)⟩
      case round =>
        obtain ⟨r,hr,rfl,hbr,hnr⟩:=hrel
        have HBR:=Lib.hid hbr
        have HNR:=Lib.hid hnr
        have HKR:=Lib.hid (on_block (on_block HK.out HBO.out) hbr)
        clear hbr hnr
        by_cases h8:r < 8
        · have d8:decide ((r:Int) < 8)=true:=decide_eq_true (by omega)
          have HTR:=Lib.hid (HTD.out hN r HM.out h8 _ wr (HS.out.below HBR.out))
          obtain ⟨T,hT⟩:∃ T,triedF hN r x=T:=⟨_,rfl⟩
          rw [hT] at HTR
          have HT:=Lib.hid hT
          clear hT
          go_wp2_with (refine wpList_load_mid rfl 26 (.tmp 1) rfl w.heap.size 0 rfl (insL x) _ (seen_few _ _ _ _ HKR.out) Tryz.underlying26 rfl info_ins ?_)
          ((with_reducible refine HTR.out.mono ?_);rintro e w2 ⟨v2,rfl,hs2,hb2⟩)
          have HB2:=Lib.hid (below_step HBR.out hb2)
          have HK2:=Lib.hid (on_block HKR.out hb2)
          have HS2:=Lib.hid hs2
          clear hs2 hb2 HTR
          cases T with
          | none =>
            dsimp only [Option.isSome]
            go_wp2_with fail
            go_roundw
            case rel=>exact ⟨r+1,by omega,by go_num,HB2.out,HNR.out.next fun E hE=>by rw [HT.out] at hE;cases hE⟩
            case measure=>simp [intOf];omega
          | some E =>
            dsimp only [Option.isSome]
            have hok:=tried_ok HM.out (by omega) (by omega) HT.out
            have HOK:=Lib.hid hok
            clear hok
            obtain ⟨a2,c2,rfl⟩:=HS2.out.len
            simp only [Option.getD_some] at HS2
            go_wp2_with fail
            ((with_reducible refine (rone_any _ E.length (lst E) (byte_lst HOK.out.1) (Nat.le_trans HOK.out.2 (by decide)) w2 HS2.out).mono ?_);rintro e w3 ⟨rfl,b3⟩)
            obtain ⟨⟨I,F⟩,hx⟩:∃ y,y=oneF E.length (lst E):=⟨_,rfl⟩
            rw [← hx]
            unfold insR
            have HX:=Lib.hid hx
            have HB3:=Lib.hid (below_step HB2.out b3)
            have HK3:=Lib.hid (on_block HK2.out b3)
            clear hx b3 HS2 HB2 HK2
            have HTH:=Lib.hid (there_alloc_new w3 zeroA 26 18 (by decide))
            have hne:w.heap.size ≠ w3.heap.size:=Nat.ne_of_lt (Array.getElem?_eq_some_iff.1 HK3.out).1
            have HNE:=Lib.hid hne
            clear hne
            have HNX:=Lib.hid (fun (h:isF' x E=false)=>HNR.out.next (fun E' hE'=>by rw [HT.out] at hE';cases hE';exact h))
            by_cases he:F=0
            · subst he
              by_cases hle:I.len=(E.length:Int)
              · obtain ⟨D,hD⟩:∃ D,D=decide ({ I with len:=x.len }=x):=⟨_,rfl⟩
                have HD:=Lib.hid hD
                have HLE:=Lib.hid hle
                have hl0:(I.len != (E.length:Int))=false:=by simp [hle]
                have hF:isF' x E=D:=by
                  unfold isF'
                  rw [← HX.out,hD,Bool.eq_iff_iff,decide_eq_true_eq,decide_eq_true_eq]
                  constructor
                  · intro h
                    rw [show I=_ from congrArg Prod.fst h]
                  · intro h
                    rw [← h,← hle]
                have HF:=Lib.hid hF
                clear hD hle hF
                cases D with
                | true =>
                  go_wp2_with (first
                    | (refine store_ins rfl (.tmp 10) (.tmp 39) rfl w3.heap.size rfl I rfl HTH.out ?_;intro Y hY hl;clear hl;obtain ⟨q1,q2,q3⟩:=stored hY;have HA:=Lib.hid q1;have HB4:=Lib.hid (below_step HB3.out q2);have HK4:=Lib.hid (on_block HK3.out q2);obtain ⟨c17,f17⟩:=cell_17 HA.out;obtain ⟨x17,_⟩:=cell_17 HK4.out;clear hY q1 q2 q3)
                    | (refine wpList_load_mid rfl 26 (.tmp 10) rfl w3.heap.size 0 rfl (insL { I with len:=x.len }) _ (seen_few _ _ { I with len:=x.len } _ (set_few HA.out x.len)) Tryz.underlying26 rfl info_ins ?_)
                    | (refine wpList_load_mid rfl 26 (.tmp 1) rfl w.heap.size 0 rfl (insL x) _ (seen_few _ _ _ _ (set_apart HK4.out HNE.out _ _)) Tryz.underlying26 rfl info_ins ?_)
                    | (refine wpList_eqlD rfl (.tmp 53) (.tmp 54) rfl { I with len:=x.len } x rfl rfl _ HD.out ?_))
                  go_returns
                  exact ⟨_,by rw [← HRES.out,enc_found HOK.out.1 HF.out];rfl,below_step HB1.out ((HBO.out.trans (HB4.out.mono HBO.out.size)).setCell (Nat.le_trans HBO.out.size HB3.out.size) _)⟩
                | false =>
                  go_wp2_with (first
                    | (refine store_ins rfl (.tmp 10) (.tmp 39) rfl w3.heap.size rfl I rfl HTH.out ?_;intro Y hY hl;clear hl;obtain ⟨q1,q2,q3⟩:=stored hY;have HA:=Lib.hid q1;have HB4:=Lib.hid (below_step HB3.out q2);have HK4:=Lib.hid (on_block HK3.out q2);obtain ⟨c17,f17⟩:=cell_17 HA.out;obtain ⟨x17,_⟩:=cell_17 HK4.out;clear hY q1 q2 q3)
                    | (refine wpList_load_mid rfl 26 (.tmp 10) rfl w3.heap.size 0 rfl (insL { I with len:=x.len }) _ (seen_few _ _ { I with len:=x.len } _ (set_few HA.out x.len)) Tryz.underlying26 rfl info_ins ?_)
                    | (refine wpList_load_mid rfl 26 (.tmp 1) rfl w.heap.size 0 rfl (insL x) _ (seen_few _ _ _ _ (set_apart HK4.out HNE.out _ _)) Tryz.underlying26 rfl info_ins ?_)
                    | (refine wpList_eqlD rfl (.tmp 53) (.tmp 54) rfl { I with len:=x.len } x rfl rfl _ HD.out ?_))
                  go_roundw
                  case rel=>exact ⟨r+1,by omega,by go_num,HB4.out.setCell HB3.out.size _,HNX.out HF.out⟩
                  case measure=>simp [intOf];omega
              · have hl1:(I.len != (E.length:Int))=true:=by simpa using hle
                have HF:=Lib.hid (show isF' x E=false by
                  unfold isF'
                  rw [← HX.out]
                  exact decide_eq_false (fun h=>hle (by rw [show I=_ from congrArg Prod.fst h])))
                clear hle
                go_wp2_with (refine store_ins rfl (.tmp 10) (.tmp 39) rfl w3.heap.size rfl I rfl HTH.out ?_;intro Y hY hl;clear hl;obtain ⟨q1,q2,q3⟩:=stored hY;have HA:=Lib.hid q1;have HB4:=Lib.hid (below_step HB3.out q2);obtain ⟨c17,f17⟩:=cell_17 HA.out;clear hY q1 q2 q3)
                go_roundw
                case rel=>exact ⟨r+1,by omega,by go_num,HB4.out,HNX.out HF.out⟩
                case measure=>simp [intOf];omega
            · have he1:(F != 0)=true:=by simpa using he
              have HF:=Lib.hid (show isF' x E=false by
                unfold isF'
                rw [← HX.out]
                exact decide_eq_false (fun h=>he (congrArg Prod.snd h)))
              clear he
              go_wp2_with (refine store_ins rfl (.tmp 10) (.tmp 39) rfl w3.heap.size rfl I rfl HTH.out ?_;intro Y hY hl;clear hl;obtain ⟨q1,q2,q3⟩:=stored hY;have HB4:=Lib.hid (below_step HB3.out q2);clear hY q1 q2 q3)
              go_roundw
              case rel=>exact ⟨r+1,by omega,by go_num,HB4.out,HNX.out HF.out⟩
              case measure=>simp [intOf];omega
        · have d8:decide ((r:Int) < 8)=false:=decide_eq_false (by omega)
          have hr8:r=8:=by omega
          have HNH:=Lib.hid (HNO.out.next HN.out (by rw [← hr8];exact HNR.out))
          clear hr8
          go_wp2_with fail
          go_roundw
          case rel=>exact ⟨n+1,by omega,by go_num,HBO.out.trans (HBR.out.mono HBO.out.size),HNH.out⟩
          case measure=>simp [intOf];omega
    · have d1:decide ((n:Int) < 1276)=false:=decide_eq_false (by omega)
      have hn6:n=1276:=by omega
      have HE:=Lib.hid (show res=22 by rw [← HRES.out,NoH.all (by rw [← hn6];exact HNO.out)])
      clear hn6
      go_wp2_with fail
      go_returns
      exact ⟨_,by rw [HE.out];rfl,below_step HB1.out HBO.out⟩
end Go.Proofs.YtlnahkkemjgjbaaGreat
