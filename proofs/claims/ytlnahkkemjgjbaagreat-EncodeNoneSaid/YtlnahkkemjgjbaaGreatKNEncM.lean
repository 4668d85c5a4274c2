import Derived.Test.YtlnahkkemjgjbaaGreatKNEncK
import Derived.Test.YtlnahkkemjgjbaaGreatKNEncL
namespace Go.Proofs.YtlnahkkemjgjbaaGreat
open Go.ChangeShapes Go.WideShapes Go.ChangeAt Go.RowKit
theorem fill_ba (x:Ins) (o:Int):(([ba o none]:List Cand).map (fillF x))=[placedF o x.a.reg x.b []]:=rfl
theorem fill_pl (x:Ins) (o:Int):(([pl o none]:List Cand).map (fillF x))=[spelledF o ++ []]:=rfl
theorem brows_1 (w:World) (T:TypeId) (v1:Value) (l1:List Int) (h1:Slc .u8 w v1 l1.length (lst l1)):BRows (w.alloc (.cells #[v1] T)) (.slice (some ⟨w.heap.size,0,none⟩) 1 1) [l1] :=
  brows_made w _ T [l1] 1 rfl (fun j hj=>by
    obtain rfl:j=0:=by simp at hj;omega
    exact ⟨v1,rfl,h1⟩)
set_option maxRecDepth 100000
set_option maxHeartbeats 4000000
theorem single_any (x:Ins) (ha:0 ≤ x.a.disp∧x.a.disp < 4294967296) (hb:0 ≤ x.b.disp∧x.b.disp < 4294967296) (w:World):Calls Tryz.prog 87 #[insV x] w (RowsR w ((singleC x.op x.cond x.size x.rep).map (fillF x))):=by
  have HI:=into_any x
  have HB:=bare_any x
  unfold singleC
  obtain ⟨o1,h1⟩:∃ o,intoC x.op x.cond x.size=o:=⟨_,rfl⟩
  obtain ⟨o2,h2⟩:∃ o,bareC x.op x.size x.rep=o:=⟨_,rfl⟩
  rw [h1] at HI ⊢
  rw [h2] at HB ⊢
  clear h1 h2
  have HP:=fun w=>placed_any o1 x.a.reg x.b hb.1 hb.2 [] (by decide) (.slice none 0 0) w (.inl ⟨rfl,rfl⟩)
  have HL:=fun w=>plain_any o2 [] (by decide) (.slice none 0 0) w (.inl ⟨rfl,rfl⟩)
  have _:=ha
  clear ha hb
  by_cases n1:o1=0
  · subst n1
    rw [if_neg (by decide)]
    by_cases n2:o2=0
    · subst n2
      rw [if_neg (by decide)]
      clear HP HL
      unfold insV insC at HI HB ⊢
      have HI:=Lib.hid HI
      have HB:=Lib.hid HB
      go_enter Tryz.func87,Tryz.ntmps87
      go_wp2_with fail
      refine (HI.out _).mono ?_
      rintro e w1 ⟨rfl,b1⟩
      have B1:=Lib.hid (boxed x (T:=26) b1)
      have B2:=Lib.hid (below_first b1)
      clear b1
      go_wp2_with (refine wpList_load_mid rfl 26 (.tmp 1) rfl w.heap.size 0 rfl (insL x) _ B1.out Tryz.underlying26 rfl info_ins ?_)
      refine (HB.out _).mono ?_
      rintro e w2 ⟨rfl,b2⟩
      have B3:=Lib.hid (below_step B2.out b2)
      clear b2
      go_wp2_with fail
      go_returns
      exact ⟨_,rfl,.inl ⟨rfl,rfl⟩,B3.out⟩
    · have hn:(o2 != 0)=true:=by simpa using n2
      rw [if_pos n2,fill_pl]
      generalize spelledF o2 ++ []=l at HL ⊢
      clear HP n2
      have HL:=Lib.hid HL
      unfold insV insC at HI HB ⊢
      have HI:=Lib.hid HI
      have HB:=Lib.hid HB
      go_enter Tryz.func87,Tryz.ntmps87
      go_wp2_with fail
      refine (HI.out _).mono ?_
      rintro e w1 ⟨rfl,b1⟩
      have B1:=Lib.hid (boxed x (T:=26) b1)
      have B2:=Lib.hid (below_first b1)
      clear b1
      go_wp2_with (refine wpList_load_mid rfl 26 (.tmp 1) rfl w.heap.size 0 rfl (insL x) _ B1.out Tryz.underlying26 rfl info_ins ?_)
      refine (HB.out _).mono ?_
      rintro e w2 ⟨rfl,b2⟩
      have B3:=Lib.hid (below_step B2.out b2)
      clear b2
      go_wp2_with fail
      refine (HL.out _).mono ?_
      rintro e w3 ⟨v,rfl,hs,b3⟩
      obtain ⟨a,c,rfl⟩:=hs.len
      have R:=Lib.hid (brows_1 w3 30 _ _ hs)
      have B4:=Lib.hid (below_step B3.out b3)
      clear hs b3
      go_wp2_with fail
      go_returns
      exact ⟨_,rfl,R.out,below_last B4.out _⟩
  · have hn:(o1 != 0)=true:=by simpa using n1
    rw [if_pos n1,fill_ba]
    clear HL HB n1
    have HP:=Lib.hid HP
    have hcb:=(show opV x.b=.agg (opL' x.b).toArray from rfl)
    unfold insV insC at HI ⊢
    have HI:=Lib.hid HI
    go_enter Tryz.func87,Tryz.ntmps87
    go_wp2_with fail
    refine (HI.out _).mono ?_
    rintro e w1 ⟨rfl,b1⟩
    have B1:=Lib.hid (boxed x (T:=26) b1)
    have B2:=Lib.hid (below_first b1)
    clear b1
    have c4:=B1.out 4 _ rfl
    rw [Nat.zero_add] at c4
    go_wp2_with (refine wpList_load_mid rfl 24 (.tmp 13) rfl w.heap.size 9 rfl (opL' x.b) _ (insL_b B1.out) Tryz.underlying24 rfl info_opd1 ?_;rw [← hcb])
    refine (HP.out _).mono ?_
    rintro e w3 ⟨v,rfl,hs,b3⟩
    obtain ⟨a,c,rfl⟩:=hs.len
    have R:=Lib.hid (brows_1 w3 30 _ _ hs)
    have B4:=Lib.hid (below_step B2.out b3)
    clear hs b3
    go_wp2_with fail
    go_returns
    exact ⟨_,rfl,R.out,below_last B4.out _⟩
end Go.Proofs.YtlnahkkemjgjbaaGreat
