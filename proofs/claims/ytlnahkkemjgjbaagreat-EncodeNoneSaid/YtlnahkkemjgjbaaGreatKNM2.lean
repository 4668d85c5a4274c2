import Derived.Test.YtlnahkkemjgjbaaGreatKNL
namespace Go.Proofs.YtlnahkkemjgjbaaGreat
open Go.ChangeShapes Go.WideShapes Go.ChangeAt Go.RowKit
section
attribute [local go_sem] isSome_setCell
set_option maxRecDepth 100000
set_option maxHeartbeats 8000000
theorem dform_j2 (w0:World) (L:Nat) (bs:Nat→Int) (hb:∀ i,0 ≤ bs i∧bs i < 256) (B:Nat) (s:RS) (u:World) (h:Rd w0 L bs B s u) (c:Int) (hc:c=129 ∨ c=193 ∨ c=209 ∨ c=247) (hz:(numS L bs 1 s).1=c) :
    Calls Tryz.prog 23 #[.pointer (some ⟨B,0,none⟩)] u fun e w'=>e=.returned (lfV (formS L bs s).1)∧RTo w0 L bs B (formS L bs s).2 u w':=by
  obtain ⟨t,hT⟩:∃ t,(numS L bs 1 s).2=t:=⟨_,rfl⟩
  have hF:formS L bs s=(grpL c (memS L bs { t with opc:=c }).1,(memS L bs { t with opc:=c }).2):=by
    unfold formS
    simp only [hz,hT]
    rcases hc with rfl | rfl | rfl | rfl <;> rfl
  rw [hF]
  clear hF
  have HN:=Lib.hid (fun o=>dnext_any w0 L bs hb B s (u.alloc o) (h.alloc o))
  rw [hz,hT] at HN
  have HX:=Lib.hid (fun (W:World) (hW:Rd w0 L bs B { t with opc:=c } W)=>dmember_any w0 L bs hb B _ W hW)
  have hy:0 ≤ (memS L bs { t with opc:=c }).1∧(memS L bs { t with opc:=c }).1 < 8:=memS_bd L bs _
  have ho:(memS L bs { t with opc:=c }).2.opc=c:=memS_opc L bs _
  have hqq:=memS_again L bs { t with opc:=c }
  generalize memS L bs { t with opc:=c }=p at *
  obtain ⟨y,q⟩:=p
  replace hy:0 ≤ y∧y < 8:=hy
  replace ho:q.opc=c:=ho
  have HO:=Lib.hid ho
  replace hqq:memS L bs q=(y,q):=hqq
  have HXQ:=fun (W:World) (hW:Rd w0 L bs B q W)=>dmember_any w0 L bs hb B q W hW
  rw [hqq] at HXQ
  have HXQ:=Lib.hid HXQ
  show Calls _ _ _ _ fun e w'=>e=.returned (lfV (grpL c y))∧RTo w0 L bs B q u w'
  have HX:Hid (∀ W,Rd w0 L bs B { t with opc:=c } W→Calls Tryz.prog 52 #[.pointer (some ⟨B,0,none⟩)] W fun e w'=>e=.returned (.int .i64 y)∧RTo w0 L bs B q W w'):=HX
  have hgc:isGrp c=true:=by rcases hc with rfl | rfl | rfl | rfl <;> rfl
  have HG:=Lib.hid (fun W=>dgrp_any c y hgc hy.1 hy.2 W)
  generalize hV:lfV (grpL c y)=V at *
  obtain ⟨f,hf⟩:∃ f,grpL c y=f:=⟨_,rfl⟩
  rw [hf] at hV
  have HV:=Lib.hid hV
  have hlt:=h.lt
  clear h hb hz hT hy ho hf hV hqq
  rcases hc with hc | hc | hc | hc
  all_goals
    first | (have t15:(c == 15)=false:=by rw [hc];rfl) | (have t15:(c == 15)=true:=by rw [hc];rfl)
    first | (have t102:(c == 102)=false:=by rw [hc];rfl) | (have t102:(c == 102)=true:=by rw [hc];rfl)
    first | (have t242:(c == 242)=false:=by rw [hc];rfl) | (have t242:(c == 242)=true:=by rw [hc];rfl)
    first | (have t243:(c == 243)=false:=by rw [hc];rfl) | (have t243:(c == 243)=true:=by rw [hc];rfl)
    first | (have t128:(c == 128)=false:=by rw [hc];rfl) | (have t128:(c == 128)=true:=by rw [hc];rfl)
    first | (have t129:(c == 129)=false:=by rw [hc];rfl) | (have t129:(c == 129)=true:=by rw [hc];rfl)
    first | (have t131:(c == 131)=false:=by rw [hc];rfl) | (have t131:(c == 131)=true:=by rw [hc];rfl)
    first | (have t143:(c == 143)=false:=by rw [hc];rfl) | (have t143:(c == 143)=true:=by rw [hc];rfl)
    first | (have t193:(c == 193)=false:=by rw [hc];rfl) | (have t193:(c == 193)=true:=by rw [hc];rfl)
    first | (have t198:(c == 198)=false:=by rw [hc];rfl) | (have t198:(c == 198)=true:=by rw [hc];rfl)
    first | (have t199:(c == 199)=false:=by rw [hc];rfl) | (have t199:(c == 199)=true:=by rw [hc];rfl)
    first | (have t209:(c == 209)=false:=by rw [hc];rfl) | (have t209:(c == 209)=true:=by rw [hc];rfl)
    first | (have t211:(c == 211)=false:=by rw [hc];rfl) | (have t211:(c == 211)=true:=by rw [hc];rfl)
    first | (have t246:(c == 246)=false:=by rw [hc];rfl) | (have t246:(c == 246)=true:=by rw [hc];rfl)
    first | (have t247:(c == 247)=false:=by rw [hc];rfl) | (have t247:(c == 247)=true:=by rw [hc];rfl)
    first | (have t254:(c == 254)=false:=by rw [hc];rfl) | (have t254:(c == 254)=true:=by rw [hc];rfl)
    first | (have t255:(c == 255)=false:=by rw [hc];rfl) | (have t255:(c == 255)=true:=by rw [hc];rfl)
    clear hc hgc
    go_enter Tryz.func23,Tryz.ntmps23
    go_wp2_with fail
    refine (HN.out _).mono ?_
    rintro e w1 ⟨rfl,h1⟩
    obtain ⟨v1,hB1,hs1⟩:=h1.rd.at_
    obtain ⟨c0,c1,c2,c3⟩:=hB1.cells
    have z1:=hB1.froz 1
    have H1:=Lib.hid (h1.set (t:={ t with opc:=c }) 1 (.int .i64 c) rfl (fun _=>rfl))
    clear h1 hB1 hs1 c0 c2 c3
    have hne:u.heap.size ≠ B:=by omega
    have HLT:=Lib.hid hlt
    have HZ:=Lib.hid (there_to (n:=7) H1.out hlt (by decide))
    have H1:=Lib.hid H1.out.first
    clear hlt
    go_upto_region 24 with (fail)
    clear c1 z1
    refine wp_region_vals (by kernel_rfl) (fun i=>i == 7) (by kernel_rfl) (GInv w0 L bs B u { t with opc:=c } q) (GG w0 L bs B u q f) (GV w0 L bs B u q f c y) gv_stays gg_refl ?_ ?_ ?_
    · exact ⟨.inl (RTo.drawn H1.out),HZ.out⟩
    · intro i o b u1 ho hinv hsz hbase hdep
      have hi:i < 8:=(Array.getElem?_eq_some_iff.1 ho).1
      have b0:b.tmps.getD 0 undef=.pointer (some ⟨B,0,none⟩):=hbase 0 (by kernel_rfl)
      have b2:b.tmps.getD 2 undef=.pointer (some ⟨u.heap.size,0,none⟩):=hbase 2 (by kernel_rfl)
      clear hbase hsz
      have h8:i=0 ∨ i=1 ∨ i=2 ∨ i=3 ∨ i=4 ∨ i=5 ∨ i=6 ∨ i=7:=by omega
      rcases h8 with rfl | rfl | rfl | rfl | rfl | rfl | rfl | rfl
      · cases ho
        exact wp_val (by simp [execOp,Act.eval,b0] <;> rfl) ⟨_,rfl,hinv,gg_refl _,rfl⟩
      · cases ho
        have d0:b.tmps.getD 46 undef=.pointer (some ⟨B,0,none⟩):=hdep 0 (by kernel_rfl)
        exact wp_val (by simp [execOp,Act.eval,d0,go_sem] <;> rfl) ⟨_,rfl,hinv,gg_refl _,rfl⟩
      · cases ho
        have d1:b.tmps.getD 47 undef=.pointer (some ⟨B,0,none⟩):=hdep 1 (by kernel_rfl)
        exact wp_val (by simp [execOp,Act.eval,d1,go_sem] <;> rfl) ⟨_,rfl,hinv,gg_refl _,rfl⟩
      · cases ho
        have d2:b.tmps.getD 48 undef=.pointer (some ⟨B,1,none⟩):=hdep 2 (by kernel_rfl)
        have c1:=hinv.opc (z:=c) rfl HO.out
        exact wp_val (by simp [execOp,Act.eval,d2,go_sem,c1] <;> rfl) ⟨_,rfl,hinv,gg_refl _,rfl⟩
      · cases ho
        exact wp_val (by simp [execOp,Act.eval,b0] <;> rfl) ⟨_,rfl,hinv,gg_refl _,rfl⟩
      · cases ho
        have d4:b.tmps.getD 50 undef=.pointer (some ⟨B,0,none⟩):=hdep 4 (by kernel_rfl)
        obtain ⟨hi1,hi2⟩:=hinv
        rcases hi1 with hi1 | hi1
        · refine wp_call (by simp [execOp,Act.eval,d4,go_sem] <;> rfl) ((HX.out u1 hi1.rd).mono ?_)
          rintro e u' ⟨rfl,h2⟩
          exact ⟨_,rfl,_,rfl,⟨.inr (hi1.trans h2),there_but h2.but hne (there_lt hi2 (by decide)) hi2⟩,gg_call hne (fun _=>hi1.trans h2) h2.but,rfl,hi1.trans h2⟩
        · refine wp_call (by simp [execOp,Act.eval,d4,go_sem] <;> rfl) ((HXQ.out u1 hi1.rd).mono ?_)
          rintro e u' ⟨rfl,h2⟩
          exact ⟨_,rfl,_,rfl,⟨.inr (hi1.trans h2),there_but h2.but hne (there_lt hi2 (by decide)) hi2⟩,gg_call hne (fun _=>hi1.trans h2) h2.but,rfl,hi1.trans h2⟩
      · cases ho
        have d3:b.tmps.getD 49 undef=.int .i64 c:=hdep 3 (by kernel_rfl)
        have d5:b.tmps.getD 51 undef=.int .i64 y:=(hdep 5 (by kernel_rfl)).1
        have h5:RTo w0 L bs B q u u1:=(hdep 5 (by kernel_rfl)).2
        refine wp_call (by simp [execOp,Act.eval,d3,d5,go_sem] <;> rfl) ((HG.out u1).mono ?_)
        rintro e u' ⟨rfl,h2⟩
        exact ⟨_,rfl,_,rfl,⟨.inr (h5.ext h2),there_but (F:=fun _=>False) (But.of_below h2) (fun h=>h) (there_lt hinv.2 (by decide)) hinv.2⟩,gg_call (F:=fun _=>False) (fun h=>h) (fun h=>h.ext h2) (But.of_below h2),HV.out.symm⟩
      · cases ho
        have d6:b.tmps.getD 52 undef=lfV f:=hdep 6 (by kernel_rfl)
        obtain ⟨hi1,hi2⟩:=hinv
        have hr:=World.rangeAt_setCells_same u1 u.heap.size 0 (lfL f) hi2
        refine wp_store_mid 70 (.tmp 2) (.tmp 52) rfl u.heap.size 0 (lfL f).toArray b2 d6 hi2 info_lf (lf_one f) ⟨_,rfl,⟨?_,?_⟩,⟨fun h=>?_,fun _=>hr⟩,hr⟩
        · exact hi1.elim (fun h=>.inl (h.cells (Nat.le_refl _) HLT.out _ _)) (fun h=>.inr (h.cells (Nat.le_refl _) HLT.out _ _))
        · exact World.there_setCells hi2 _ _ _
        · exact h.cells (Nat.le_refl _) HLT.out _ _
    · intro ff u1 hinv hVV
      have h5:=(hVV 5 (by decide)).2
      have h7:=hVV 7 (by decide)
      generalize hbb:laid _ ff _ _=b
      have b2:b.tmps.getD 2 undef=.pointer (some ⟨u.heap.size,0,none⟩):=by rw [← hbb];kernel_rfl
      have bd:b.defers=[]:=by rw [← hbb];kernel_rfl
      clear hbb
      have hl:=load_lf h7
      have HL:=Lib.hid hl
      have H5:=Lib.hid h5
      clear hl h5 h7 hinv hVV
      go_wp2_with fail
      exact bodyPost_ret (results_cell rfl b2 HL.out) bd ⟨by rw [HV.out],H5.out⟩
set_option maxRecDepth 512
theorem dform_129 (w0:World) (L:Nat) (bs:Nat→Int) (hb:∀ i,0 ≤ bs i∧bs i < 256) (B:Nat) (s:RS) (u:World) (h:Rd w0 L bs B s u) (hz:(numS L bs 1 s).1=129) :
    Calls Tryz.prog 23 #[.pointer (some ⟨B,0,none⟩)] u fun e w'=>e=.returned (lfV (formS L bs s).1)∧RTo w0 L bs B (formS L bs s).2 u w':=dform_j2 w0 L bs hb B s u h 129 (by decide) hz
theorem dform_193 (w0:World) (L:Nat) (bs:Nat→Int) (hb:∀ i,0 ≤ bs i∧bs i < 256) (B:Nat) (s:RS) (u:World) (h:Rd w0 L bs B s u) (hz:(numS L bs 1 s).1=193) :
    Calls Tryz.prog 23 #[.pointer (some ⟨B,0,none⟩)] u fun e w'=>e=.returned (lfV (formS L bs s).1)∧RTo w0 L bs B (formS L bs s).2 u w':=dform_j2 w0 L bs hb B s u h 193 (by decide) hz
theorem dform_209 (w0:World) (L:Nat) (bs:Nat→Int) (hb:∀ i,0 ≤ bs i∧bs i < 256) (B:Nat) (s:RS) (u:World) (h:Rd w0 L bs B s u) (hz:(numS L bs 1 s).1=209) :
    Calls Tryz.prog 23 #[.pointer (some ⟨B,0,none⟩)] u fun e w'=>e=.returned (lfV (formS L bs s).1)∧RTo w0 L bs B (formS L bs s).2 u w':=dform_j2 w0 L bs hb B s u h 209 (by decide) hz
theorem dform_247 (w0:World) (L:Nat) (bs:Nat→Int) (hb:∀ i,0 ≤ bs i∧bs i < 256) (B:Nat) (s:RS) (u:World) (h:Rd w0 L bs B s u) (hz:(numS L bs 1 s).1=247) :
    Calls Tryz.prog 23 #[.pointer (some ⟨B,0,none⟩)] u fun e w'=>e=.returned (lfV (formS L bs s).1)∧RTo w0 L bs B (formS L bs s).2 u w':=dform_j2 w0 L bs hb B s u h 247 (by decide) hz
end
section
attribute [local go_sem] isSome_setCell
set_option maxRecDepth 100000
set_option maxHeartbeats 8000000
theorem dform_j3 (w0:World) (L:Nat) (bs:Nat→Int) (hb:∀ i,0 ≤ bs i∧bs i < 256) (B:Nat) (s:RS) (u:World) (h:Rd w0 L bs B s u) (c:Int) (hc:c=131 ∨ c=198 ∨ c=211 ∨ c=254) (hz:(numS L bs 1 s).1=c) :
    Calls Tryz.prog 23 #[.pointer (some ⟨B,0,none⟩)] u fun e w'=>e=.returned (lfV (formS L bs s).1)∧RTo w0 L bs B (formS L bs s).2 u w':=by
  obtain ⟨t,hT⟩:∃ t,(numS L bs 1 s).2=t:=⟨_,rfl⟩
  have hF:formS L bs s=(grpL c (memS L bs { t with opc:=c }).1,(memS L bs { t with opc:=c }).2):=by
    unfold formS
    simp only [hz,hT]
    rcases hc with rfl | rfl | rfl | rfl <;> rfl
  rw [hF]
  clear hF
  have HN:=Lib.hid (fun o=>dnext_any w0 L bs hb B s (u.alloc o) (h.alloc o))
  rw [hz,hT] at HN
  have HX:=Lib.hid (fun (W:World) (hW:Rd w0 L bs B { t with opc:=c } W)=>dmember_any w0 L bs hb B _ W hW)
  have hy:0 ≤ (memS L bs { t with opc:=c }).1∧(memS L bs { t with opc:=c }).1 < 8:=memS_bd L bs _
  have ho:(memS L bs { t with opc:=c }).2.opc=c:=memS_opc L bs _
  have hqq:=memS_again L bs { t with opc:=c }
  generalize memS L bs { t with opc:=c }=p at *
  obtain ⟨y,q⟩:=p
  replace hy:0 ≤ y∧y < 8:=hy
  replace ho:q.opc=c:=ho
  have HO:=Lib.hid ho
  replace hqq:memS L bs q=(y,q):=hqq
  have HXQ:=fun (W:World) (hW:Rd w0 L bs B q W)=>dmember_any w0 L bs hb B q W hW
  rw [hqq] at HXQ
  have HXQ:=Lib.hid HXQ
  show Calls _ _ _ _ fun e w'=>e=.returned (lfV (grpL c y))∧RTo w0 L bs B q u w'
  have HX:Hid (∀ W,Rd w0 L bs B { t with opc:=c } W→Calls Tryz.prog 52 #[.pointer (some ⟨B,0,none⟩)] W fun e w'=>e=.returned (.int .i64 y)∧RTo w0 L bs B q W w'):=HX
  have hgc:isGrp c=true:=by rcases hc with rfl | rfl | rfl | rfl <;> rfl
  have HG:=Lib.hid (fun W=>dgrp_any c y hgc hy.1 hy.2 W)
  generalize hV:lfV (grpL c y)=V at *
  obtain ⟨f,hf⟩:∃ f,grpL c y=f:=⟨_,rfl⟩
  rw [hf] at hV
  have HV:=Lib.hid hV
  have hlt:=h.lt
  clear h hb hz hT hy ho hf hV hqq
  rcases hc with hc | hc | hc | hc
  all_goals
    first | (have t15:(c == 15)=false:=by rw [hc];rfl) | (have t15:(c == 15)=true:=by rw [hc];rfl)
    first | (have t102:(c == 102)=false:=by rw [hc];rfl) | (have t102:(c == 102)=true:=by rw [hc];rfl)
    first | (have t242:(c == 242)=false:=by rw [hc];rfl) | (have t242:(c == 242)=true:=by rw [hc];rfl)
    first | (have t243:(c == 243)=false:=by rw [hc];rfl) | (have t243:(c == 243)=true:=by rw [hc];rfl)
    first | (have t128:(c == 128)=false:=by rw [hc];rfl) | (have t128:(c == 128)=true:=by rw [hc];rfl)
    first | (have t129:(c == 129)=false:=by rw [hc];rfl) | (have t129:(c == 129)=true:=by rw [hc];rfl)
    first | (have t131:(c == 131)=false:=by rw [hc];rfl) | (have t131:(c == 131)=true:=by rw [hc];rfl)
    first | (have t143:(c == 143)=false:=by rw [hc];rfl) | (have t143:(c == 143)=true:=by rw [hc];rfl)
    first | (have t193:(c == 193)=false:=by rw [hc];rfl) | (have t193:(c == 193)=true:=by rw [hc];rfl)
    first | (have t198:(c == 198)=false:=by rw [hc];rfl) | (have t198:(c == 198)=true:=by rw [hc];rfl)
    first | (have t199:(c == 199)=false:=by rw [hc];rfl) | (have t199:(c == 199)=true:=by rw [hc];rfl)
    first | (have t209:(c == 209)=false:=by rw [hc];rfl) | (have t209:(c == 209)=true:=by rw [hc];rfl)
    first | (have t211:(c == 211)=false:=by rw [hc];rfl) | (have t211:(c == 211)=true:=by rw [hc];rfl)
    first | (have t246:(c == 246)=false:=by rw [hc];rfl) | (have t246:(c == 246)=true:=by rw [hc];rfl)
    first | (have t247:(c == 247)=false:=by rw [hc];rfl) | (have t247:(c == 247)=true:=by rw [hc];rfl)
    first | (have t254:(c == 254)=false:=by rw [hc];rfl) | (have t254:(c == 254)=true:=by rw [hc];rfl)
    first | (have t255:(c == 255)=false:=by rw [hc];rfl) | (have t255:(c == 255)=true:=by rw [hc];rfl)
    clear hc hgc
    go_enter Tryz.func23,Tryz.ntmps23
    go_wp2_with fail
    refine (HN.out _).mono ?_
    rintro e w1 ⟨rfl,h1⟩
    obtain ⟨v1,hB1,hs1⟩:=h1.rd.at_
    obtain ⟨c0,c1,c2,c3⟩:=hB1.cells
    have z1:=hB1.froz 1
    have H1:=Lib.hid (h1.set (t:={ t with opc:=c }) 1 (.int .i64 c) rfl (fun _=>rfl))
    clear h1 hB1 hs1 c0 c2 c3
    have hne:u.heap.size ≠ B:=by omega
    have HLT:=Lib.hid hlt
    have HZ:=Lib.hid (there_to (n:=7) H1.out hlt (by decide))
    have H1:=Lib.hid H1.out.first
    clear hlt
    go_upto_region 24 with (fail)
    clear c1 z1
    refine wp_region_vals (by kernel_rfl) (fun i=>i == 7) (by kernel_rfl) (GInv w0 L bs B u { t with opc:=c } q) (GG w0 L bs B u q f) (GV w0 L bs B u q f c y) gv_stays gg_refl ?_ ?_ ?_
    · exact ⟨.inl (RTo.drawn H1.out),HZ.out⟩
    · intro i o b u1 ho hinv hsz hbase hdep
      have hi:i < 8:=(Array.getElem?_eq_some_iff.1 ho).1
      have b0:b.tmps.getD 0 undef=.pointer (some ⟨B,0,none⟩):=hbase 0 (by kernel_rfl)
      have b2:b.tmps.getD 2 undef=.pointer (some ⟨u.heap.size,0,none⟩):=hbase 2 (by kernel_rfl)
      clear hbase hsz
      have h8:i=0 ∨ i=1 ∨ i=2 ∨ i=3 ∨ i=4 ∨ i=5 ∨ i=6 ∨ i=7:=by omega
      rcases h8 with rfl | rfl | rfl | rfl | rfl | rfl | rfl | rfl
      · cases ho
        exact wp_val (by simp [execOp,Act.eval,b0] <;> rfl) ⟨_,rfl,hinv,gg_refl _,rfl⟩
      · cases ho
        have d0:b.tmps.getD 46 undef=.pointer (some ⟨B,0,none⟩):=hdep 0 (by kernel_rfl)
        exact wp_val (by simp [execOp,Act.eval,d0,go_sem] <;> rfl) ⟨_,rfl,hinv,gg_refl _,rfl⟩
      · cases ho
        have d1:b.tmps.getD 47 undef=.pointer (some ⟨B,0,none⟩):=hdep 1 (by kernel_rfl)
        exact wp_val (by simp [execOp,Act.eval,d1,go_sem] <;> rfl) ⟨_,rfl,hinv,gg_refl _,rfl⟩
      · cases ho
        have d2:b.tmps.getD 48 undef=.pointer (some ⟨B,1,none⟩):=hdep 2 (by kernel_rfl)
        have c1:=hinv.opc (z:=c) rfl HO.out
        exact wp_val (by simp [execOp,Act.eval,d2,go_sem,c1] <;> rfl) ⟨_,rfl,hinv,gg_refl _,rfl⟩
      · cases ho
        exact wp_val (by simp [execOp,Act.eval,b0] <;> rfl) ⟨_,rfl,hinv,gg_refl _,rfl⟩
      · cases ho
        have d4:b.tmps.getD 50 undef=.pointer (some ⟨B,0,none⟩):=hdep 4 (by kernel_rfl)
        obtain ⟨hi1,hi2⟩:=hinv
        rcases hi1 with hi1 | hi1
        · refine wp_call (by simp [execOp,Act.eval,d4,go_sem] <;> rfl) ((HX.out u1 hi1.rd).mono ?_)
          rintro e u' ⟨rfl,h2⟩
          exact ⟨_,rfl,_,rfl,⟨.inr (hi1.trans h2),there_but h2.but hne (there_lt hi2 (by decide)) hi2⟩,gg_call hne (fun _=>hi1.trans h2) h2.but,rfl,hi1.trans h2⟩
        · refine wp_call (by simp [execOp,Act.eval,d4,go_sem] <;> rfl) ((HXQ.out u1 hi1.rd).mono ?_)
          rintro e u' ⟨rfl,h2⟩
          exact ⟨_,rfl,_,rfl,⟨.inr (hi1.trans h2),there_but h2.but hne (there_lt hi2 (by decide)) hi2⟩,gg_call hne (fun _=>hi1.trans h2) h2.but,rfl,hi1.trans h2⟩
      · cases ho
        have d3:b.tmps.getD 49 undef=.int .i64 c:=hdep 3 (by kernel_rfl)
        have d5:b.tmps.getD 51 undef=.int .i64 y:=(hdep 5 (by kernel_rfl)).1
        have h5:RTo w0 L bs B q u u1:=(hdep 5 (by kernel_rfl)).2
        refine wp_call (by simp [execOp,Act.eval,d3,d5,go_sem] <;> rfl) ((HG.out u1).mono ?_)
        rintro e u' ⟨rfl,h2⟩
        exact ⟨_,rfl,_,rfl,⟨.inr (h5.ext h2),there_but (F:=fun _=>False) (But.of_below h2) (fun h=>h) (there_lt hinv.2 (by decide)) hinv.2⟩,gg_call (F:=fun _=>False) (fun h=>h) (fun h=>h.ext h2) (But.of_below h2),HV.out.symm⟩
      · cases ho
        have d6:b.tmps.getD 52 undef=lfV f:=hdep 6 (by kernel_rfl)
        obtain ⟨hi1,hi2⟩:=hinv
        have hr:=World.rangeAt_setCells_same u1 u.heap.size 0 (lfL f) hi2
        refine wp_store_mid 70 (.tmp 2) (.tmp 52) rfl u.heap.size 0 (lfL f).toArray b2 d6 hi2 info_lf (lf_one f) ⟨_,rfl,⟨?_,?_⟩,⟨fun h=>?_,fun _=>hr⟩,hr⟩
        · exact hi1.elim (fun h=>.inl (h.cells (Nat.le_refl _) HLT.out _ _)) (fun h=>.inr (h.cells (Nat.le_refl _) HLT.out _ _))
        · exact World.there_setCells hi2 _ _ _
        · exact h.cells (Nat.le_refl _) HLT.out _ _
    · intro ff u1 hinv hVV
      have h5:=(hVV 5 (by decide)).2
      have h7:=hVV 7 (by decide)
      generalize hbb:laid _ ff _ _=b
      have b2:b.tmps.getD 2 undef=.pointer (some ⟨u.heap.size,0,none⟩):=by rw [← hbb];kernel_rfl
      have bd:b.defers=[]:=by rw [← hbb];kernel_rfl
      clear hbb
      have hl:=load_lf h7
      have HL:=Lib.hid hl
      have H5:=Lib.hid h5
      clear hl h5 h7 hinv hVV
      go_wp2_with fail
      exact bodyPost_ret (results_cell rfl b2 HL.out) bd ⟨by rw [HV.out],H5.out⟩
set_option maxRecDepth 512
theorem dform_131 (w0:World) (L:Nat) (bs:Nat→Int) (hb:∀ i,0 ≤ bs i∧bs i < 256) (B:Nat) (s:RS) (u:World) (h:Rd w0 L bs B s u) (hz:(numS L bs 1 s).1=131) :
    Calls Tryz.prog 23 #[.pointer (some ⟨B,0,none⟩)] u fun e w'=>e=.returned (lfV (formS L bs s).1)∧RTo w0 L bs B (formS L bs s).2 u w':=dform_j3 w0 L bs hb B s u h 131 (by decide) hz
theorem dform_198 (w0:World) (L:Nat) (bs:Nat→Int) (hb:∀ i,0 ≤ bs i∧bs i < 256) (B:Nat) (s:RS) (u:World) (h:Rd w0 L bs B s u) (hz:(numS L bs 1 s).1=198) :
    Calls Tryz.prog 23 #[.pointer (some ⟨B,0,none⟩)] u fun e w'=>e=.returned (lfV (formS L bs s).1)∧RTo w0 L bs B (formS L bs s).2 u w':=dform_j3 w0 L bs hb B s u h 198 (by decide) hz
theorem dform_211 (w0:World) (L:Nat) (bs:Nat→Int) (hb:∀ i,0 ≤ bs i∧bs i < 256) (B:Nat) (s:RS) (u:World) (h:Rd w0 L bs B s u) (hz:(numS L bs 1 s).1=211) :
    Calls Tryz.prog 23 #[.pointer (some ⟨B,0,none⟩)] u fun e w'=>e=.returned (lfV (formS L bs s).1)∧RTo w0 L bs B (formS L bs s).2 u w':=dform_j3 w0 L bs hb B s u h 211 (by decide) hz
theorem dform_254 (w0:World) (L:Nat) (bs:Nat→Int) (hb:∀ i,0 ≤ bs i∧bs i < 256) (B:Nat) (s:RS) (u:World) (h:Rd w0 L bs B s u) (hz:(numS L bs 1 s).1=254) :
    Calls Tryz.prog 23 #[.pointer (some ⟨B,0,none⟩)] u fun e w'=>e=.returned (lfV (formS L bs s).1)∧RTo w0 L bs B (formS L bs s).2 u w':=dform_j3 w0 L bs hb B s u h 254 (by decide) hz
end
end Go.Proofs.YtlnahkkemjgjbaaGreat
