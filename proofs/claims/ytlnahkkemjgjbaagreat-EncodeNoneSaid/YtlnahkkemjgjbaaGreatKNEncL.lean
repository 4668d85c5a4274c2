import Derived.Test.YtlnahkkemjgjbaaGreatKNC11
namespace Go.Proofs.YtlnahkkemjgjbaaGreat
open Go.ChangeShapes Go.WideShapes Go.ChangeAt Go.RowKit
def tab_bare46 (x:Ins) (p:Int) (R:Nat):List Pm:=[.val (insV x),.val (.int .i64 (p)),.val (.int .i64 (p+164)),.val (.pointer (some ⟨R,2,none⟩)),.val (.int .i64 (x.size)),.val (.int .i64 (wF x.size)),.val (.int .i64 (p+164+wF x.size)),.val (.int .i64 (p+164+wF x.size))]
set_option maxRecDepth 100000
set_option maxHeartbeats 4000000
theorem bare_46 (x:Ins) (hop:x.op=46) (w:World):Calls Tryz.prog 99 #[insV x] w fun e w'=>e=.returned (.int .i64 ((if x.rep then 62208 else 0)+164+wF x.size))∧Below w.heap.size w w':=by
  have hrp:=repeated_any x
  obtain ⟨p,hp⟩:∃ p:Int,(if x.rep then 62208 else 0)=p:=⟨_,rfl⟩
  rw [hp] at hrp ⊢
  have hp:p=62208 ∨ p=0:=by rw [← hp];cases x.rep <;> simp
  have HRp:=Lib.hid hrp
  have HR1:=Lib.hid (show bits .or .i64 p 164=p+164 by rcases hp with rfl | rfl <;> decide)
  have HR2:=Lib.hid (show bits .or .i64 (p+164) (wF x.size)=p+164+wF x.size by rcases hp with rfl | rfl <;> exact or_w _ _ (by decide) (by decide) (by decide))
  clear hp hrp
  have hc0:(insC x)[0]?=some (.int .i64 46):=by rw [← hop];rfl
  have hc2:(insC x)[2]?=some (.int .i64 x.size):=rfl
  clear hop
  unfold insV
  go_enter Tryz.func99,Tryz.ntmps99
  go_upto_region 9 with fail
  refine dr_region (tab_bare46 x p w.heap.size) (by kernel_rfl) ?_ ?_
  · intro i o b u ho hinv hsz hbase hdep
    have hi:i < 8:=(Array.getElem?_eq_some_iff.1 ho).1
    have b1:b.tmps.getD 1 undef=(.pointer (some ⟨w.heap.size,0,none⟩)):=hbase 1 (by kernel_rfl)
    have HX:=Lib.hid (boxed x hinv)
    clear hbase hsz
    have D0:=tV b 13 (insV x) (hdep 0)
    have D1:=tV b 14 (.int .i64 (p)) (hdep 1)
    have D2:=tV b 15 (.int .i64 (p+164)) (hdep 2)
    have D3:=tQ b w.heap.size 16 2 (hdep 3)
    have D4:=tV b 17 (.int .i64 (x.size)) (hdep 4)
    have D5:=tV b 18 (.int .i64 (wF x.size)) (hdep 5)
    have D6:=tV b 19 (.int .i64 (p+164+wF x.size)) (hdep 6)
    clear hdep
    rcases (show i=0 ∨ i=1 ∨ i=2 ∨ i=3 ∨ i=4 ∨ i=5 ∨ i=6 ∨ i=7 by omega) with rfl | rfl | rfl | rfl | rfl | rfl | rfl | rfl
    · cases ho;exact dr_val (dr_load 26 (.tmp 1) rfl _ (b1) (box_ins HX.out)) hinv rfl
    · cases ho;refine wp_call (by simp [execOp,Act.eval,D0 (by kernel_rfl),go_sem] <;> rfl) ((HRp.out u).mono ?_);rintro e u1 ⟨rfl,hb⟩;exact ⟨_,rfl,_,rfl,below_step hinv hb,hb,rfl⟩
    · cases ho;exact dr_val (by simp [execOp,Act.eval,D1 (by kernel_rfl),go_sem,HR1.out] <;> rfl) hinv rfl
    · cases ho;exact dr_val (by simp [execOp,Act.eval,b1,go_sem] <;> rfl) hinv rfl
    · cases ho;exact dr_val (dr_load 3 (.tmp 16) rfl _ (D3 (by kernel_rfl)) (box_int HX.out 2 _ rfl)) hinv rfl
    · cases ho;refine wp_call (by simp [execOp,Act.eval,D4 (by kernel_rfl),go_sem] <;> rfl) ((wide_any _ u).mono ?_);rintro e u1 ⟨rfl,rfl⟩;exact ⟨_,rfl,_,rfl,hinv,Below.refl _ _,rfl⟩
    · cases ho;exact dr_val (by simp [execOp,Act.eval,D2 (by kernel_rfl),D5 (by kernel_rfl),go_sem,HR2.out] <;> rfl) hinv rfl
    · cases ho;exact dr_val (by simp [execOp,Act.eval,D6 (by kernel_rfl),go_sem] <;> rfl) hinv rfl
  · intro f u hinv hV
    have q:f 7=.int .i64 (p+164+wF x.size):=hV 7 (by decide)
    generalize hb:laid _ f _ _=b
    have b4:b.tmps.getD 2 undef=f 7:=by rw [← hb];kernel_rfl
    have bd:b.defers=[]:=by rw [← hb];kernel_rfl
    clear hb
    rw [Array.getD_eq_getD_getElem?,q] at b4
    have HI:=Lib.hid (below_first hinv)
    clear hV q hinv
    go_wp2_with fail
    exact bodyPost_ret (v:=.int .i64 (p+164+wF x.size)) (by simp [results,Tryz.results99,go_sem,b4]) bd ⟨rfl,HI.out⟩
set_option maxRecDepth 512
def tab_bare47 (x:Ins) (p:Int) (R:Nat):List Pm:=[.val (insV x),.val (.int .i64 (p)),.val (.int .i64 (p+170)),.val (.pointer (some ⟨R,2,none⟩)),.val (.int .i64 (x.size)),.val (.int .i64 (wF x.size)),.val (.int .i64 (p+170+wF x.size)),.val (.int .i64 (p+170+wF x.size))]
set_option maxRecDepth 100000
theorem bare_47 (x:Ins) (hop:x.op=47) (w:World):Calls Tryz.prog 99 #[insV x] w fun e w'=>e=.returned (.int .i64 ((if x.rep then 62208 else 0)+170+wF x.size))∧Below w.heap.size w w':=by
  have hrp:=repeated_any x
  obtain ⟨p,hp⟩:∃ p:Int,(if x.rep then 62208 else 0)=p:=⟨_,rfl⟩
  rw [hp] at hrp ⊢
  have hp:p=62208 ∨ p=0:=by rw [← hp];cases x.rep <;> simp
  have HRp:=Lib.hid hrp
  have HR1:=Lib.hid (show bits .or .i64 p 170=p+170 by rcases hp with rfl | rfl <;> decide)
  have HR2:=Lib.hid (show bits .or .i64 (p+170) (wF x.size)=p+170+wF x.size by rcases hp with rfl | rfl <;> exact or_w _ _ (by decide) (by decide) (by decide))
  clear hp hrp
  have hc0:(insC x)[0]?=some (.int .i64 47):=by rw [← hop];rfl
  have hc2:(insC x)[2]?=some (.int .i64 x.size):=rfl
  clear hop
  unfold insV
  go_enter Tryz.func99,Tryz.ntmps99
  go_upto_region 11 with fail
  refine dr_region (tab_bare47 x p w.heap.size) (by kernel_rfl) ?_ ?_
  · intro i o b u ho hinv hsz hbase hdep
    have hi:i < 8:=(Array.getElem?_eq_some_iff.1 ho).1
    have b1:b.tmps.getD 1 undef=(.pointer (some ⟨w.heap.size,0,none⟩)):=hbase 1 (by kernel_rfl)
    have HX:=Lib.hid (boxed x hinv)
    clear hbase hsz
    have D0:=tV b 22 (insV x) (hdep 0)
    have D1:=tV b 23 (.int .i64 (p)) (hdep 1)
    have D2:=tV b 24 (.int .i64 (p+170)) (hdep 2)
    have D3:=tQ b w.heap.size 25 2 (hdep 3)
    have D4:=tV b 26 (.int .i64 (x.size)) (hdep 4)
    have D5:=tV b 27 (.int .i64 (wF x.size)) (hdep 5)
    have D6:=tV b 28 (.int .i64 (p+170+wF x.size)) (hdep 6)
    clear hdep
    rcases (show i=0 ∨ i=1 ∨ i=2 ∨ i=3 ∨ i=4 ∨ i=5 ∨ i=6 ∨ i=7 by omega) with rfl | rfl | rfl | rfl | rfl | rfl | rfl | rfl
    · cases ho;exact dr_val (dr_load 26 (.tmp 1) rfl _ (b1) (box_ins HX.out)) hinv rfl
    · cases ho;refine wp_call (by simp [execOp,Act.eval,D0 (by kernel_rfl),go_sem] <;> rfl) ((HRp.out u).mono ?_);rintro e u1 ⟨rfl,hb⟩;exact ⟨_,rfl,_,rfl,below_step hinv hb,hb,rfl⟩
    · cases ho;exact dr_val (by simp [execOp,Act.eval,D1 (by kernel_rfl),go_sem,HR1.out] <;> rfl) hinv rfl
    · cases ho;exact dr_val (by simp [execOp,Act.eval,b1,go_sem] <;> rfl) hinv rfl
    · cases ho;exact dr_val (dr_load 3 (.tmp 25) rfl _ (D3 (by kernel_rfl)) (box_int HX.out 2 _ rfl)) hinv rfl
    · cases ho;refine wp_call (by simp [execOp,Act.eval,D4 (by kernel_rfl),go_sem] <;> rfl) ((wide_any _ u).mono ?_);rintro e u1 ⟨rfl,rfl⟩;exact ⟨_,rfl,_,rfl,hinv,Below.refl _ _,rfl⟩
    · cases ho;exact dr_val (by simp [execOp,Act.eval,D2 (by kernel_rfl),D5 (by kernel_rfl),go_sem,HR2.out] <;> rfl) hinv rfl
    · cases ho;exact dr_val (by simp [execOp,Act.eval,D6 (by kernel_rfl),go_sem] <;> rfl) hinv rfl
  · intro f u hinv hV
    have q:f 7=.int .i64 (p+170+wF x.size):=hV 7 (by decide)
    generalize hb:laid _ f _ _=b
    have b4:b.tmps.getD 2 undef=f 7:=by rw [← hb];kernel_rfl
    have bd:b.defers=[]:=by rw [← hb];kernel_rfl
    clear hb
    rw [Array.getD_eq_getD_getElem?,q] at b4
    have HI:=Lib.hid (below_first hinv)
    clear hV q hinv
    go_wp2_with fail
    exact bodyPost_ret (v:=.int .i64 (p+170+wF x.size)) (by simp [results,Tryz.results99,go_sem,b4]) bd ⟨rfl,HI.out⟩
theorem bare_any (x:Ins) (w:World):Calls Tryz.prog 99 #[insV x] w fun e w'=>e=.returned (.int .i64 (bareC x.op x.size x.rep))∧Below w.heap.size w w':=by
  by_cases h46:x.op=46
  · have:=bare_46 x h46 w
    rw [h46]
    exact this
  by_cases h47:x.op=47
  · have:=bare_47 x h47 w
    rw [h47]
    exact this
  have HW:=Lib.hid (wide_any x.size)
  have hw1:=or_w 172 x.size (by decide) (by decide) (by decide)
  unfold insV insC
  obtain ⟨op,cd,sz,oa,ob,oc,rp,ln⟩:=x
  dsimp only at HW hw1 h46 h47 ⊢
  by_cases h:op=50 ∨ op=37 ∨ op=38 ∨ op=48 ∨ op=49 ∨ op=40 ∨ op=39 ∨ op=43 ∨ op=41 ∨ op=42 ∨ op=44 ∨ op=45
  · rcases h with rfl | rfl | rfl | rfl | rfl | rfl | rfl | rfl | rfl | rfl | rfl | rfl
    all_goals
      clear h46 h47
      go_enter Tryz.func99,Tryz.ntmps99
      go_wp2_with (go_at_call 35;(with_reducible refine (HW.out _).mono ?_);rintro e w' ⟨rfl,rfl⟩)
      go_returns
      exact ⟨rfl,below_last (Below.refl _ _) _⟩
  · simp only [not_or] at h
    have n46:(op == 46)=false:=by simp at h ⊢;omega
    have n47:(op == 47)=false:=by simp at h ⊢;omega
    have n50:(op == 50)=false:=by simp at h ⊢;omega
    have n37:(op == 37)=false:=by simp at h ⊢;omega
    have n38:(op == 38)=false:=by simp at h ⊢;omega
    have n48:(op == 48)=false:=by simp at h ⊢;omega
    have n49:(op == 49)=false:=by simp at h ⊢;omega
    have n40:(op == 40)=false:=by simp at h ⊢;omega
    have n39:(op == 39)=false:=by simp at h ⊢;omega
    have n43:(op == 43)=false:=by simp at h ⊢;omega
    have n41:(op == 41)=false:=by simp at h ⊢;omega
    have n42:(op == 42)=false:=by simp at h ⊢;omega
    have n44:(op == 44)=false:=by simp at h ⊢;omega
    have n45:(op == 45)=false:=by simp at h ⊢;omega
    go_enter Tryz.func99,Tryz.ntmps99
    go_wp2_with fail
    go_returns
    refine ⟨?_,below_last (Below.refl _ _) _⟩
    unfold bareC
    rw [if_neg (by omega),if_neg (by omega),if_neg (by omega),if_neg (by omega),if_neg (by omega),if_neg (by omega),if_neg (by omega),if_neg (by omega),if_neg (by omega),if_neg (by omega),if_neg (by omega),if_neg (by omega),if_neg (by omega),if_neg (by omega)]
    rfl
end Go.Proofs.YtlnahkkemjgjbaaGreat
