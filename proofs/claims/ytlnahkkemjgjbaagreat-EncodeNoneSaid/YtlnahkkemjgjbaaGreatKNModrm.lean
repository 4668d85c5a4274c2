import Derived.BigQuiet
import Derived.Deep.QuietTactic
import Derived.Test.YtlnahkkemjgjbaaGreatKNModrmC
import Derived.Test.YtlnahkkemjgjbaaGreatKNModrmF
namespace Go.Proofs.YtlnahkkemjgjbaaGreat
open Go.ChangeShapes Go.WideShapes Go.ChangeAt Go.RowKit
theorem opd_equal (w:World) (a0 a1 a2 a3 a4 a5 b0 b1 b2 b3 b4 b5:Int) :
    (Op.equalIn 10000 24 (.agg #[.int .i64 a0,.int .i64 a1,.int .i64 a2,.int .i64 a3,.int .i64 a4,.int .u32 a5]) (.agg #[.int .i64 b0,.int .i64 b1,.int .i64 b2,.int .i64 b3,.int .i64 b4,.int .u32 b5])).run Tryz.prog w =
      .ok (a0 == b0 && (a1 == b1 && (a2 == b2 && (a3 == b3 && (a4 == b4 && a5 == b5))))) w:=by
  have u4:=Tryz.underlying3
  have z4:=Tryz.isAgg3
  have u5:=Tryz.underlying22
  have z5:=Tryz.isAgg22
  have hS:Tryz.prog.underlying 24=some (.struct (Tryz.prog.fieldsOf 24)):=by kernel_rfl
  have hp:Tryz.prog.stoodInHeld 24=false:=by kernel_rfl
  rw [show (10000:Nat)=9999+1 from rfl,run_equalIn_agg w 9999 24 _ _ hS hp]
  simp only [Program.fieldsOf,Tryz.underlying24]
  go_simp
  by_cases h0:a0=b0 <;> by_cases h1:a1=b1 <;> by_cases h2:a2=b2 <;> by_cases h3:a3=b3 <;> by_cases h4:a4=b4 <;> by_cases h5:a5=b5 <;> simp [h0,h1,h2,h3,h4,h5]
theorem opd_eql (w:World) (a0 a1 a2 a3 a4 a5 b0 b1 b2 b3 b4 b5:Int) :
    (binOp .eql 24 (.agg #[.int .i64 a0,.int .i64 a1,.int .i64 a2,.int .i64 a3,.int .i64 a4,.int .u32 a5]) (.agg #[.int .i64 b0,.int .i64 b1,.int .i64 b2,.int .i64 b3,.int .i64 b4,.int .u32 b5])).run Tryz.prog w =
      .ok (.bool (a0 == b0 && (a1 == b1 && (a2 == b2 && (a3 == b3 && (a4 == b4 && a5 == b5)))))) w:=by
  rw [run_eql_struct,opd_equal]
  rfl
def PutTo (w:World) (P:List Int) (n:Int) (e:Ending) (w':World):Prop:=∃ v,e=.returned (.tuple #[v,.int .i64 n])∧Slc .u8 w' v P.length (lst P)∧Below w.heap.size w w'
theorem PutTo.none {w w':World} {e:Ending} {n:Int} (he:e=.returned (.tuple #[.slice none 0 0,.int .i64 n])) (hb:Below w.heap.size w w'):PutTo w [] n e w':=⟨_,he,.inl ⟨rfl,rfl⟩,hb⟩
theorem PutTo.row {w w':World} {e:Ending} {n:Int} {v:Value} {P:List Int} {k:Nat} (he:e=.returned (.tuple #[v,.int .i64 n])) (hk:k=P.length) (hs:Slc .u8 w' v k (lst P)) (hb:Below w.heap.size w w'):PutTo w P n e w':=by subst hk;exact ⟨_,he,hs,hb⟩
set_option maxRecDepth 100000
set_option maxHeartbeats 4000000
theorem put_reg (reg rg:Int) (hr:0 ≤ reg∧reg ≤ 7) (ho:0 ≤ rg∧rg ≤ 7) (w:World) :
    Calls Tryz.prog 57 #[.int .i64 reg,opV ⟨1,rg,-1,-1,1,0⟩] w (PutTo w [3 * 64+reg * 8+rg] 0):=by
  have HN:=Lib.hid (mnumbered_yes reg hr.1 hr.2)
  have HO:=Lib.hid (mnumbered_yes rg ho.1 ho.2)
  have HRg:=Lib.hid (mregister_any rg)
  have HJ:=Lib.hid (mjoined_any 3 reg rg (by decide) (by decide) hr.1 (by omega) ho.1 (by omega))
  have hq:∀ u,(binOp .eql 24 (.agg #[.int .i64 1,.int .i64 rg,.int .i64 (-1),.int .i64 (-1),.int .i64 1,.int .u32 0]) (.agg #[.int .i64 1,.int .i64 rg,.int .i64 (-1),.int .i64 (-1),.int .i64 1,.int .u32 0])).run Tryz.prog u=.ok (.bool true) u:=fun u=>by rw [opd_eql];simp
  unfold opV
  clear hr ho
  go_enter Tryz.func57,Tryz.ntmps57
  go_wp2_with (go_at_call 80;(with_reducible refine (HN.out _).mono ?_);rintro e w' ⟨rfl,rfl⟩)
  go_region_with (first | (go_at_call 80;(with_reducible refine (HO.out _).mono ?_);rintro e w' ⟨rfl,rfl⟩) | (go_at_call 81;(with_reducible refine (HRg.out _).mono ?_);rintro e w' ⟨rfl,rfl⟩))
  all_goals
    go_wp2_with (go_at_call 82;(with_reducible refine (HJ.out _).mono ?_);rintro e w' ⟨rfl,rfl⟩)
    go_returns
    exact PutTo.row rfl rfl (slc_one _ _ _ (by simp [go_sem])) (by repeat (first | exact Below.refl _ _ | (with_reducible refine Below.drew ?_) | (with_reducible refine below_last ?_ _)))
set_option maxRecDepth 512
theorem below_in {w w0 w2:World} (h:Below w.heap.size w w0) (hb:Below w0.heap.size w0 w2):Below w.heap.size w w2:=h.trans (hb.mono h.size)
set_option maxRecDepth 100000
theorem put_mem (reg:Int) (o:Opd) (d0:0 ≤ o.disp) (d1:o.disp < 4294967296) (hr:0 ≤ reg∧reg ≤ 7) (hk:¬ regOk o) (w:World) :
    Calls Tryz.prog 57 #[.int .i64 reg,opV o] w (PutTo w (if memOk o then putF reg o else []) (if memOk o then 0 else 22)):=by
  have HN:=Lib.hid (mnumbered_yes reg hr.1 hr.2)
  have HRt:=mrright_any o
  by_cases ho:0 ≤ o.reg∧o.reg ≤ 7
  · have HO:=Lib.hid (mnumbered_yes o.reg ho.1 ho.2)
    have HRg:=Lib.hid (mregister_any o.reg)
    have hq:∀ u,(binOp .eql 24 (opV o) (.agg #[.int .i64 1,.int .i64 o.reg,.int .i64 (-1),.int .i64 (-1),.int .i64 1,.int .u32 0])).run Tryz.prog u=.ok (.bool false) u:=fun u=>by
      unfold opV
      rw [opd_eql,show (o.kind == 1 && (o.reg == o.reg && (o.base == -1 && (o.index == -1 && (o.scale == 1 && o.disp == 0)))))=false from ?_]
      rw [Bool.eq_false_iff]
      intro h
      simp at h
      refine hk ⟨ho.1,ho.2,?_⟩
      obtain ⟨kind,rg,base,index,scale,disp⟩:=o
      simp only at h
      simp [h]
    by_cases hm:memOk o
    · rw [if_pos hm,if_pos hm]
      rw [decide_eq_true hm] at HRt
      have HSp:=mspelled_any reg o hr.1 (by omega) d0 d1 hm
      generalize putF reg o=P at *
      obtain ⟨kind,rg,base,index,scale,disp⟩:=o
      unfold opV at hq HRt HSp ⊢
      simp only at HO HRg hq HRt HSp ⊢
      have HRt:=Lib.hid HRt
      have HSp:=Lib.hid HSp
      clear d0 d1 hr ho hm hk
      go_enter Tryz.func57,Tryz.ntmps57
      go_wp2_with (go_at_call 80;(with_reducible refine (HN.out _).mono ?_);rintro e w' ⟨rfl,rfl⟩)
      go_region_with (first | (go_at_call 80;(with_reducible refine (HO.out _).mono ?_);rintro e w' ⟨rfl,rfl⟩) | (go_at_call 81;(with_reducible refine (HRg.out _).mono ?_);rintro e w' ⟨rfl,rfl⟩))
      all_goals
        go_wp2_with fail
        refine (HRt.out _).mono ?_
        rintro e w2 ⟨rfl,hb⟩
        have HB:=Lib.hid (below_in (w:=w) (by repeat (first | exact Below.refl _ _ | (with_reducible refine Below.drew ?_) | (with_reducible refine below_last ?_ _))) hb)
        obtain ⟨hc,hf⟩:=bcell hb
        have hz:w.heap.size < w2.heap.size:=by have:=hb.size;simp at this;omega
        clear hb
        go_wp2_with fail
        refine (HSp.out _).mono ?_
        rintro e w3 ⟨v,rfl,hs,hb3⟩
        have HB3:=Lib.hid (below_in HB.out hb3)
        have HS:=Lib.hid hs
        clear hs hb3 hc hf
        go_wp2_with fail
        go_returns
        exact ⟨_,rfl,HS.out,HB3.out⟩
    · rw [if_neg hm,if_neg hm]
      rw [decide_eq_false hm] at HRt
      obtain ⟨kind,rg,base,index,scale,disp⟩:=o
      unfold opV at hq HRt ⊢
      simp only at HO HRg hq HRt ⊢
      have HRt:=Lib.hid HRt
      clear d0 d1 hr ho hm hk
      go_enter Tryz.func57,Tryz.ntmps57
      go_wp2_with (go_at_call 80;(with_reducible refine (HN.out _).mono ?_);rintro e w' ⟨rfl,rfl⟩)
      go_region_with (first | (go_at_call 80;(with_reducible refine (HO.out _).mono ?_);rintro e w' ⟨rfl,rfl⟩) | (go_at_call 81;(with_reducible refine (HRg.out _).mono ?_);rintro e w' ⟨rfl,rfl⟩))
      all_goals
        go_wp2_with fail
        refine (HRt.out _).mono ?_
        rintro e w2 ⟨rfl,hb⟩
        have HB:=Lib.hid (below_in (w:=w) (by repeat (first | exact Below.refl _ _ | (with_reducible refine Below.drew ?_) | (with_reducible refine below_last ?_ _))) hb)
        clear hb
        go_wp2_with fail
        go_returns
        exact PutTo.none rfl HB.out
  · have hm:¬ memOk o:=fun h=>ho (by have:=h.2.1;omega)
    have HO:=Lib.hid (mnumbered_no o.reg (by omega))
    rw [if_neg hm,if_neg hm]
    rw [decide_eq_false hm] at HRt
    obtain ⟨kind,rg,base,index,scale,disp⟩:=o
    unfold opV at HRt ⊢
    simp only at HO HRt ⊢
    have HRt:=Lib.hid HRt
    clear d0 d1 hr ho hm hk
    go_enter Tryz.func57,Tryz.ntmps57
    go_wp2_with (go_at_call 80;(with_reducible refine (HN.out _).mono ?_);rintro e w' ⟨rfl,rfl⟩)
    have HQ:=Lib.hid (fun u=>(HO.out u).mono (fun e w' (h:_∧u=w')=>(⟨h.1,h.2.symm⟩:_∧w'=u)))
    refine wp_region_quiet_lit (by kernel_rfl) (by kernel_rfl) ?_
    repeat (any_goals (first | go_big_quiet_step ((go_at_call 80;exact Calls.quiet_of_same (HQ.out _))) | quiet_step ((go_at_call 80;exact Calls.quiet_of_same (HQ.out _))) | (refine wpQuiet_step (fun K hK=>?_);go_simp;split <;> (refine hK _ ?_;clear hK K))))
    all_goals (refine wpQuiet_nil ?_;intro _ hw';obtain ⟨nq,hw''⟩:=hw';subst hw'')
    all_goals
      go_wp2_with fail
      refine (HRt.out _).mono ?_
      rintro e w2 ⟨rfl,hb⟩
      have HB:=Lib.hid (below_in (w:=w) (by repeat (first | exact Below.refl _ _ | (with_reducible refine below_drN ?_ _) | (with_reducible refine Below.drew ?_) | (with_reducible refine below_last ?_ _))) hb)
      clear hb
      go_wp2_with fail
      go_returns
      exact PutTo.none rfl HB.out
set_option maxRecDepth 512
theorem put_none (reg:Int) (o:Opd) (hr:¬ (0 ≤ reg∧reg ≤ 7)) (w:World) :
    Calls Tryz.prog 57 #[.int .i64 reg,opV o] w (PutTo w [] 22):=by
  have HN:=Lib.hid (mnumbered_no reg (by omega))
  unfold opV
  clear hr
  go_enter Tryz.func57,Tryz.ntmps57
  go_wp2_with (go_at_call 80;(with_reducible refine (HN.out _).mono ?_);rintro e w' ⟨rfl,rfl⟩)
  go_returns
  exact PutTo.none rfl (by repeat (first | exact Below.refl _ _ | (with_reducible refine Below.drew ?_) | (with_reducible refine below_last ?_ _)))
theorem put_walk (reg:Int) (o:Opd) (d0:0 ≤ o.disp) (d1:o.disp < 4294967296) (w:World) :
    Calls Tryz.prog 57 #[.int .i64 reg,opV o] w (PutTo w (if putOk reg o then putF reg o else []) (if putOk reg o then 0 else 22)):=by
  by_cases hr:0 ≤ reg∧reg ≤ 7
  · by_cases hk:regOk o
    · have hp:putOk reg o:=⟨hr.1,by omega,.inl hk⟩
      rw [if_pos hp,if_pos hp]
      obtain ⟨h0,h7,he⟩:=hk
      have hP:putF reg o=[3 * 64+reg * 8+o.reg]:=by unfold putF;rw [if_pos (by rw [he])];simp
      rw [hP]
      have:=put_reg reg o.reg hr ⟨h0,h7⟩ w
      rwa [← he] at this
    · have hp:putOk reg o ↔ memOk o:=⟨fun h=>h.2.2.resolve_left hk,fun h=>⟨hr.1,by omega,.inr h⟩⟩
      have:=put_mem reg o d0 d1 hr hk w
      by_cases hm:memOk o
      · rw [if_pos hm,if_pos hm] at this
        rw [if_pos (hp.2 hm),if_pos (hp.2 hm)]
        exact this
      · rw [if_neg hm,if_neg hm] at this
        rw [if_neg (fun h=>hm (hp.1 h)),if_neg (fun h=>hm (hp.1 h))]
        exact this
  · have hp:¬ putOk reg o:=fun h=>hr ⟨h.1,by have:=h.2.1;omega⟩
    rw [if_neg hp,if_neg hp]
    exact put_none reg o hr w
theorem mrput_any (reg:Int) (o:Opd) (d0:0 ≤ o.disp) (d1:o.disp < 4294967296) (w:World) :
    Calls Tryz.prog 57 #[.int .i64 reg,opV o] w fun e w'=>∃ v,e=.returned (.tuple #[v,.int .i64 (if putOk reg o then 0 else 22)])∧Slc .u8 w' v (if putOk reg o then (putF reg o).length else 0) (fun i=>(putF reg o).getD i 0)∧Below w.heap.size w w':=by
  refine (put_walk reg o d0 d1 w).mono ?_
  rintro e w' ⟨v,he,hs,hb⟩
  refine ⟨v,he,?_,hb⟩
  by_cases hp:putOk reg o
  · rw [if_pos hp] at hs ⊢
    exact hs
  · rw [if_neg hp] at hs ⊢
    exact hs.congr (fun i hi=>by simp at hi)
end Go.Proofs.YtlnahkkemjgjbaaGreat
