import Derived.Test.YtlnahkkemjgjbaaGreatKNC11
namespace Go.Proofs.YtlnahkkemjgjbaaGreat
open Go.ChangeShapes Go.WideShapes Go.ChangeAt Go.RowKit
theorem or_176 (s:Int):IntKind.i64.wrap (wF s * 8)=wF s * 8∧bits .or .i64 176 (wF s * 8)=176+wF s * 8:=by
  rcases wF_in s with h | h <;> rw [h] <;> decide
def tab_moved_18 (x:Ins) (R:Nat):List Pm:=[.val (.int .i64 (wF x.size)),.val (.int .i64 (wF x.size * 8)),.val (.int .i64 (176+wF x.size * 8)),.val (.pointer (some ⟨R,3,none⟩)),.val (opV x.a),.val (insV x),.bytes (lowF x.b.disp (nF x.size)),.bytes (namedF (176+wF x.size * 8) x.a (lowF x.b.disp (nF x.size))),.val (.int .i64 (wF x.size)),.val (.int .i64 (160+wF x.size)),.val (.pointer (some ⟨R,9,none⟩)),.val (.pointer (some ⟨R,14,none⟩)),.val (.int .u32 (x.b.disp)),.bytes (lowF x.b.disp 4),.bytes (spelledF (160+wF x.size) ++ (lowF x.b.disp 4)),.val (.int .i64 (wF x.size)),.val (.int .i64 (162+wF x.size)),.val (.pointer (some ⟨R,3,none⟩)),.val (.pointer (some ⟨R,8,none⟩)),.val (.int .u32 (x.a.disp)),.bytes (lowF x.a.disp 4),.bytes (spelledF (162+wF x.size) ++ (lowF x.a.disp 4)),.val (.int .i64 (wF x.size)),.val (.int .i64 (136+wF x.size)),.val (.pointer (some ⟨R,9,none⟩)),.val (.pointer (some ⟨R,10,none⟩)),.val (.int .i64 (x.b.reg)),.val (.pointer (some ⟨R,3,none⟩)),.val (opV x.a),.bytes (placedF (136+wF x.size) x.b.reg x.a ([])),.val (.int .i64 (wF x.size)),.val (.int .i64 (138+wF x.size)),.val (.pointer (some ⟨R,3,none⟩)),.val (.pointer (some ⟨R,4,none⟩)),.val (.int .i64 (x.a.reg)),.val (.pointer (some ⟨R,9,none⟩)),.val (opV x.b),.bytes (placedF (138+wF x.size) x.a.reg x.b ([])),.val (.int .i64 (wF x.size)),.val (.int .i64 (198+wF x.size)),.val (.pointer (some ⟨R,3,none⟩)),.val (opV x.a),.val (insV x),.bytes (lowF x.b.disp (nF x.size)),.bytes (placedF (198+wF x.size) 0 x.a (lowF x.b.disp (nF x.size))),.rows [namedF (176+wF x.size * 8) x.a (lowF x.b.disp (nF x.size)),spelledF (160+wF x.size) ++ (lowF x.b.disp 4),spelledF (162+wF x.size) ++ (lowF x.a.disp 4),placedF (136+wF x.size) x.b.reg x.a ([]),placedF (138+wF x.size) x.a.reg x.b ([]),placedF (198+wF x.size) 0 x.a (lowF x.b.disp (nF x.size))],.rows [namedF (176+wF x.size * 8) x.a (lowF x.b.disp (nF x.size)),spelledF (160+wF x.size) ++ (lowF x.b.disp 4),spelledF (162+wF x.size) ++ (lowF x.a.disp 4),placedF (136+wF x.size) x.b.reg x.a ([]),placedF (138+wF x.size) x.a.reg x.b ([]),placedF (198+wF x.size) 0 x.a (lowF x.b.disp (nF x.size))]]
set_option maxRecDepth 100000
set_option maxHeartbeats 4000000
theorem moved_18 (x:Ins) (ha:0 ≤ x.a.disp∧x.a.disp < 4294967296) (hb:0 ≤ x.b.disp∧x.b.disp < 4294967296) (hop:x.op=18) (w:World):Calls Tryz.prog 42 #[insV x] w (RowsR w ((movedC 18 x.cond x.size x.rep).map (fillF x))):=by
  have _:=ha;have _:=hb
  have HW:=Lib.hid (wide_any x.size)
  have hc2:(insC x)[2]?=some (.int .i64 x.size):=rfl
  have hc0:(insC x)[0]?=some (.int .i64 18):=by rw [← hop];rfl
  clear hop
  unfold insV
  go_enter Tryz.func42,Tryz.ntmps42
  go_upto_region 4 with (go_at_call 35;(with_reducible refine (HW.out _).mono ?_);rintro e w' ⟨rfl,rfl⟩)
  refine dr_region (tab_moved_18 x w.heap.size) (by kernel_rfl) ?_ ?_
  · intro i o b u ho hinv hsz hbase hdep
    have hi:i < 47:=(Array.getElem?_eq_some_iff.1 ho).1
    have b1:b.tmps.getD 1 undef=(.pointer (some ⟨w.heap.size,0,none⟩)):=hbase 1 (by kernel_rfl)
    have b3:b.tmps.getD 3 undef=(.int .i64 (wF x.size)):=hbase 3 (by kernel_rfl)
    have HX:=Lib.hid (boxed x hinv)
    clear hbase hsz
    have D0:=tV b 11 (.int .i64 (wF x.size)) (hdep 0)
    have D1:=tV b 12 (.int .i64 (wF x.size * 8)) (hdep 1)
    have D2:=tV b 13 (.int .i64 (176+wF x.size * 8)) (hdep 2)
    have D3:=tQ b w.heap.size 14 3 (hdep 3)
    have D4:=tV b 15 (opV x.a) (hdep 4)
    have D5:=tV b 16 (insV x) (hdep 5)
    have D6:=tB b u 17 (lowF x.b.disp (nF x.size)) (hdep 6)
    have D7:=tB b u 18 (namedF (176+wF x.size * 8) x.a (lowF x.b.disp (nF x.size))) (hdep 7)
    have D8:=tV b 19 (.int .i64 (wF x.size)) (hdep 8)
    have D9:=tV b 20 (.int .i64 (160+wF x.size)) (hdep 9)
    have D10:=tQ b w.heap.size 21 9 (hdep 10)
    have D11:=tQ b w.heap.size 22 14 (hdep 11)
    have D12:=tV b 23 (.int .u32 (x.b.disp)) (hdep 12)
    have D13:=tB b u 24 (lowF x.b.disp 4) (hdep 13)
    have D14:=tB b u 25 (spelledF (160+wF x.size) ++ (lowF x.b.disp 4)) (hdep 14)
    have D15:=tV b 26 (.int .i64 (wF x.size)) (hdep 15)
    have D16:=tV b 27 (.int .i64 (162+wF x.size)) (hdep 16)
    have D17:=tQ b w.heap.size 28 3 (hdep 17)
    have D18:=tQ b w.heap.size 29 8 (hdep 18)
    have D19:=tV b 30 (.int .u32 (x.a.disp)) (hdep 19)
    have D20:=tB b u 31 (lowF x.a.disp 4) (hdep 20)
    have D21:=tB b u 32 (spelledF (162+wF x.size) ++ (lowF x.a.disp 4)) (hdep 21)
    have D22:=tV b 33 (.int .i64 (wF x.size)) (hdep 22)
    have D23:=tV b 34 (.int .i64 (136+wF x.size)) (hdep 23)
    have D24:=tQ b w.heap.size 35 9 (hdep 24)
    have D25:=tQ b w.heap.size 36 10 (hdep 25)
    have D26:=tV b 37 (.int .i64 (x.b.reg)) (hdep 26)
    have D27:=tQ b w.heap.size 38 3 (hdep 27)
    have D28:=tV b 39 (opV x.a) (hdep 28)
    have D29:=tB b u 40 (placedF (136+wF x.size) x.b.reg x.a ([])) (hdep 29)
    have D30:=tV b 41 (.int .i64 (wF x.size)) (hdep 30)
    have D31:=tV b 42 (.int .i64 (138+wF x.size)) (hdep 31)
    have D32:=tQ b w.heap.size 43 3 (hdep 32)
    have D33:=tQ b w.heap.size 44 4 (hdep 33)
    have D34:=tV b 45 (.int .i64 (x.a.reg)) (hdep 34)
    have D35:=tQ b w.heap.size 46 9 (hdep 35)
    have D36:=tV b 47 (opV x.b) (hdep 36)
    have D37:=tB b u 48 (placedF (138+wF x.size) x.a.reg x.b ([])) (hdep 37)
    have D38:=tV b 49 (.int .i64 (wF x.size)) (hdep 38)
    have D39:=tV b 50 (.int .i64 (198+wF x.size)) (hdep 39)
    have D40:=tQ b w.heap.size 51 3 (hdep 40)
    have D41:=tV b 52 (opV x.a) (hdep 41)
    have D42:=tV b 53 (insV x) (hdep 42)
    have D43:=tB b u 54 (lowF x.b.disp (nF x.size)) (hdep 43)
    have D44:=tB b u 55 (placedF (198+wF x.size) 0 x.a (lowF x.b.disp (nF x.size))) (hdep 44)
    have D45:=tW b u 56 [namedF (176+wF x.size * 8) x.a (lowF x.b.disp (nF x.size)),spelledF (160+wF x.size) ++ (lowF x.b.disp 4),spelledF (162+wF x.size) ++ (lowF x.a.disp 4),placedF (136+wF x.size) x.b.reg x.a ([]),placedF (138+wF x.size) x.a.reg x.b ([]),placedF (198+wF x.size) 0 x.a (lowF x.b.disp (nF x.size))] (hdep 45)
    clear hdep
    rcases (show i=0 ∨ i=1 ∨ i=2 ∨ i=3 ∨ i=4 ∨ i=5 ∨ i=6 ∨ i=7 ∨ i=8 ∨ i=9 ∨ i=10 ∨ i=11 ∨ i=12 ∨ i=13 ∨ i=14 ∨ i=15 ∨ i=16 ∨ i=17 ∨ i=18 ∨ i=19 ∨ i=20 ∨ i=21 ∨ i=22 ∨ i=23 ∨ i=24 ∨ i=25 ∨ i=26 ∨ i=27 ∨ i=28 ∨ i=29 ∨ i=30 ∨ i=31 ∨ i=32 ∨ i=33 ∨ i=34 ∨ i=35 ∨ i=36 ∨ i=37 ∨ i=38 ∨ i=39 ∨ i=40 ∨ i=41 ∨ i=42 ∨ i=43 ∨ i=44 ∨ i=45 ∨ i=46 by omega) with rfl | rfl | rfl | rfl | rfl | rfl | rfl | rfl | rfl | rfl | rfl | rfl | rfl | rfl | rfl | rfl | rfl | rfl | rfl | rfl | rfl | rfl | rfl | rfl | rfl | rfl | rfl | rfl | rfl | rfl | rfl | rfl | rfl | rfl | rfl | rfl | rfl | rfl | rfl | rfl | rfl | rfl | rfl | rfl | rfl | rfl | rfl
    · cases ho;exact dr_val (by simp [execOp,Act.eval,b3,go_sem] <;> rfl) hinv rfl
    · cases ho;exact dr_val (by simp [execOp,Act.eval,D0 (by kernel_rfl),go_sem,(or_176 x.size).1] <;> rfl) hinv rfl
    · cases ho;exact dr_val (by simp [execOp,Act.eval,D1 (by kernel_rfl),go_sem,(or_176 x.size).2] <;> rfl) hinv rfl
    · cases ho;exact dr_val (by simp [execOp,Act.eval,b1,go_sem] <;> rfl) hinv rfl
    · cases ho;exact dr_val (dr_load 24 (.tmp 14) rfl _ (D3 (by kernel_rfl)) (box_a HX.out)) hinv rfl
    · cases ho;exact dr_val (dr_load 26 (.tmp 1) rfl _ (b1) (box_ins HX.out)) hinv rfl
    · cases ho;exact dr_bytes (by simp [execOp,Act.eval,D5 (by kernel_rfl),go_sem] <;> rfl) (immediate_any x u) hinv
    · cases ho;obtain ⟨a6,c6,e6⟩:=(D6 (by kernel_rfl)).len;have h6:=D6 (by kernel_rfl);rw [e6] at h6;exact dr_bytes (by simp [execOp,Act.eval,D2 (by kernel_rfl),D4 (by kernel_rfl),e6,go_sem] <;> rfl) (named_any _ _ _ (low_le _ _ (nF_le _)) (by have:=wF_in x.size;omega) (by omega) (by have:=wF_in x.size;omega) _ u h6) hinv
    · cases ho;exact dr_val (by simp [execOp,Act.eval,b3,go_sem] <;> rfl) hinv rfl
    · cases ho;exact dr_val (by simp [execOp,Act.eval,D8 (by kernel_rfl),go_sem,or_w] <;> rfl) hinv rfl
    · cases ho;exact dr_val (by simp [execOp,Act.eval,b1,go_sem] <;> rfl) hinv rfl
    · cases ho;exact dr_val (by simp [execOp,Act.eval,D10 (by kernel_rfl),go_sem] <;> rfl) hinv rfl
    · cases ho;exact dr_val (dr_load 22 (.tmp 22) rfl _ (D11 (by kernel_rfl)) (box_u32 HX.out 14 _ rfl)) hinv rfl
    · cases ho;exact dr_bytes (by simp [execOp,Act.eval,D12 (by kernel_rfl),go_sem] <;> rfl) (low_any _ 4 (by decide) u) hinv
    · cases ho;obtain ⟨a13,c13,e13⟩:=(D13 (by kernel_rfl)).len;have h13:=D13 (by kernel_rfl);rw [e13] at h13;exact dr_bytes (by simp [execOp,Act.eval,D9 (by kernel_rfl),e13,go_sem] <;> rfl) (plain_any _ _ (low_le _ _ (by decide)) _ u h13) hinv
    · cases ho;exact dr_val (by simp [execOp,Act.eval,b3,go_sem] <;> rfl) hinv rfl
    · cases ho;exact dr_val (by simp [execOp,Act.eval,D15 (by kernel_rfl),go_sem,or_w] <;> rfl) hinv rfl
    · cases ho;exact dr_val (by simp [execOp,Act.eval,b1,go_sem] <;> rfl) hinv rfl
    · cases ho;exact dr_val (by simp [execOp,Act.eval,D17 (by kernel_rfl),go_sem] <;> rfl) hinv rfl
    · cases ho;exact dr_val (dr_load 22 (.tmp 29) rfl _ (D18 (by kernel_rfl)) (box_u32 HX.out 8 _ rfl)) hinv rfl
    · cases ho;exact dr_bytes (by simp [execOp,Act.eval,D19 (by kernel_rfl),go_sem] <;> rfl) (low_any _ 4 (by decide) u) hinv
    · cases ho;obtain ⟨a20,c20,e20⟩:=(D20 (by kernel_rfl)).len;have h20:=D20 (by kernel_rfl);rw [e20] at h20;exact dr_bytes (by simp [execOp,Act.eval,D16 (by kernel_rfl),e20,go_sem] <;> rfl) (plain_any _ _ (low_le _ _ (by decide)) _ u h20) hinv
    · cases ho;exact dr_val (by simp [execOp,Act.eval,b3,go_sem] <;> rfl) hinv rfl
    · cases ho;exact dr_val (by simp [execOp,Act.eval,D22 (by kernel_rfl),go_sem,or_w] <;> rfl) hinv rfl
    · cases ho;exact dr_val (by simp [execOp,Act.eval,b1,go_sem] <;> rfl) hinv rfl
    · cases ho;exact dr_val (by simp [execOp,Act.eval,D24 (by kernel_rfl),go_sem] <;> rfl) hinv rfl
    · cases ho;exact dr_val (dr_load 3 (.tmp 36) rfl _ (D25 (by kernel_rfl)) (box_int HX.out 10 _ rfl)) hinv rfl
    · cases ho;exact dr_val (by simp [execOp,Act.eval,b1,go_sem] <;> rfl) hinv rfl
    · cases ho;exact dr_val (dr_load 24 (.tmp 38) rfl _ (D27 (by kernel_rfl)) (box_a HX.out)) hinv rfl
    · cases ho;exact dr_bytes (by simp [execOp,Act.eval,D23 (by kernel_rfl),D26 (by kernel_rfl),D28 (by kernel_rfl),go_sem] <;> rfl) (placed_any _ _ _ ha.1 ha.2 _ (by decide) _ u (.inl ⟨rfl,rfl⟩)) hinv
    · cases ho;exact dr_val (by simp [execOp,Act.eval,b3,go_sem] <;> rfl) hinv rfl
    · cases ho;exact dr_val (by simp [execOp,Act.eval,D30 (by kernel_rfl),go_sem,or_w] <;> rfl) hinv rfl
    · cases ho;exact dr_val (by simp [execOp,Act.eval,b1,go_sem] <;> rfl) hinv rfl
    · cases ho;exact dr_val (by simp [execOp,Act.eval,D32 (by kernel_rfl),go_sem] <;> rfl) hinv rfl
    · cases ho;exact dr_val (dr_load 3 (.tmp 44) rfl _ (D33 (by kernel_rfl)) (box_int HX.out 4 _ rfl)) hinv rfl
    · cases ho;exact dr_val (by simp [execOp,Act.eval,b1,go_sem] <;> rfl) hinv rfl
    · cases ho;exact dr_val (dr_load 24 (.tmp 46) rfl _ (D35 (by kernel_rfl)) (box_b HX.out)) hinv rfl
    · cases ho;exact dr_bytes (by simp [execOp,Act.eval,D31 (by kernel_rfl),D34 (by kernel_rfl),D36 (by kernel_rfl),go_sem] <;> rfl) (placed_any _ _ _ hb.1 hb.2 _ (by decide) _ u (.inl ⟨rfl,rfl⟩)) hinv
    · cases ho;exact dr_val (by simp [execOp,Act.eval,b3,go_sem] <;> rfl) hinv rfl
    · cases ho;exact dr_val (by simp [execOp,Act.eval,D38 (by kernel_rfl),go_sem,or_w] <;> rfl) hinv rfl
    · cases ho;exact dr_val (by simp [execOp,Act.eval,b1,go_sem] <;> rfl) hinv rfl
    · cases ho;exact dr_val (dr_load 24 (.tmp 51) rfl _ (D40 (by kernel_rfl)) (box_a HX.out)) hinv rfl
    · cases ho;exact dr_val (dr_load 26 (.tmp 1) rfl _ (b1) (box_ins HX.out)) hinv rfl
    · cases ho;exact dr_bytes (by simp [execOp,Act.eval,D42 (by kernel_rfl),go_sem] <;> rfl) (immediate_any x u) hinv
    · cases ho;obtain ⟨a43,c43,e43⟩:=(D43 (by kernel_rfl)).len;have h43:=D43 (by kernel_rfl);rw [e43] at h43;exact dr_bytes (by simp [execOp,Act.eval,D39 (by kernel_rfl),D41 (by kernel_rfl),e43,go_sem] <;> rfl) (placed_any _ _ _ ha.1 ha.2 _ (low_le _ _ (nF_le _)) _ u h43) hinv
    · cases ho;obtain ⟨a7,c7,e7⟩:=(D7 (by kernel_rfl)).len;obtain ⟨a14,c14,e14⟩:=(D14 (by kernel_rfl)).len;obtain ⟨a21,c21,e21⟩:=(D21 (by kernel_rfl)).len;obtain ⟨a29,c29,e29⟩:=(D29 (by kernel_rfl)).len;obtain ⟨a37,c37,e37⟩:=(D37 (by kernel_rfl)).len;obtain ⟨a44,c44,e44⟩:=(D44 (by kernel_rfl)).len;have h7:=D7 (by kernel_rfl);rw [e7] at h7;have h14:=D14 (by kernel_rfl);rw [e14] at h14;have h21:=D21 (by kernel_rfl);rw [e21] at h21;have h29:=D29 (by kernel_rfl);rw [e29] at h29;have h37:=D37 (by kernel_rfl);rw [e37] at h37;have h44:=D44 (by kernel_rfl);rw [e44] at h44;rw [Array.getD_eq_getD_getElem?] at e7 e14 e21 e29 e37 e44;exact dr_rows (T:=30) (vs:=[.slice a7 _ c7,.slice a14 _ c14,.slice a21 _ c21,.slice a29 _ c29,.slice a37 _ c37,.slice a44 _ c44]) (n:=6) (by exact ⟨h7,h14,h21,h29,h37,h44,trivial⟩) (by rfl) (by simp [execOp,Act.eval,e7,e14,e21,e29,e37,e44,go_sem] <;> rfl) hinv
    · cases ho;have h:=D45 (by kernel_rfl);obtain ⟨a,n,c,e⟩:=h.is;exact dr_val (by simp [execOp,Act.eval,e,go_sem] <;> rfl) hinv (by rw [e] at h;exact h)
  · intro f u hinv hV
    have q:BRows u (f 46) [namedF (176+wF x.size * 8) x.a (lowF x.b.disp (nF x.size)),spelledF (160+wF x.size) ++ (lowF x.b.disp 4),spelledF (162+wF x.size) ++ (lowF x.a.disp 4),placedF (136+wF x.size) x.b.reg x.a ([]),placedF (138+wF x.size) x.a.reg x.b ([]),placedF (198+wF x.size) 0 x.a (lowF x.b.disp (nF x.size))]:=hV 46 (by decide)
    generalize hb:laid _ f _ _=b
    have b4:b.tmps.getD 2 undef=f 46:=by rw [← hb];kernel_rfl
    have bd:b.defers=[]:=by rw [← hb];kernel_rfl
    clear hb
    rw [Array.getD_eq_getD_getElem?] at b4
    obtain ⟨a,m,c,e⟩:=q.is
    rw [e] at q b4
    have HQ:=Lib.hid q
    have HI:=Lib.hid (below_first hinv)
    clear hV q e hinv
    go_wp2_with fail
    exact bodyPost_ret (v:=.slice a m c) (by simp [results,Tryz.results42,go_sem,b4]) bd ⟨_,rfl,HQ.out,HI.out⟩
set_option maxRecDepth 512
def tab_moved_22 (x:Ins) (R:Nat):List Pm:=[.val (.pointer (some ⟨R,9,none⟩)),.val (opV x.b),.bytes (namedF (144) x.b ([])),.val (.int .i64 (wF x.size)),.val (.int .i64 (134+wF x.size)),.val (.pointer (some ⟨R,9,none⟩)),.val (.pointer (some ⟨R,10,none⟩)),.val (.int .i64 (x.b.reg)),.val (.pointer (some ⟨R,3,none⟩)),.val (opV x.a),.bytes (placedF (134+wF x.size) x.b.reg x.a ([])),.rows [namedF (144) x.b ([]),placedF (134+wF x.size) x.b.reg x.a ([])],.rows [namedF (144) x.b ([]),placedF (134+wF x.size) x.b.reg x.a ([])]]
set_option maxRecDepth 100000
theorem moved_22 (x:Ins) (ha:0 ≤ x.a.disp∧x.a.disp < 4294967296) (hb:0 ≤ x.b.disp∧x.b.disp < 4294967296) (hop:x.op=22) (w:World):Calls Tryz.prog 42 #[insV x] w (RowsR w ((movedC 22 x.cond x.size x.rep).map (fillF x))):=by
  have _:=ha;have _:=hb
  have HW:=Lib.hid (wide_any x.size)
  have hc2:(insC x)[2]?=some (.int .i64 x.size):=rfl
  have hc0:(insC x)[0]?=some (.int .i64 22):=by rw [← hop];rfl
  clear hop
  unfold insV
  go_enter Tryz.func42,Tryz.ntmps42
  go_upto_region 6 with (go_at_call 35;(with_reducible refine (HW.out _).mono ?_);rintro e w' ⟨rfl,rfl⟩)
  refine dr_region (tab_moved_22 x w.heap.size) (by kernel_rfl) ?_ ?_
  · intro i o b u ho hinv hsz hbase hdep
    have hi:i < 13:=(Array.getElem?_eq_some_iff.1 ho).1
    have b1:b.tmps.getD 1 undef=(.pointer (some ⟨w.heap.size,0,none⟩)):=hbase 1 (by kernel_rfl)
    have b3:b.tmps.getD 3 undef=(.int .i64 (wF x.size)):=hbase 3 (by kernel_rfl)
    have HX:=Lib.hid (boxed x hinv)
    clear hbase hsz
    have D0:=tQ b w.heap.size 59 9 (hdep 0)
    have D1:=tV b 60 (opV x.b) (hdep 1)
    have D2:=tB b u 61 (namedF (144) x.b ([])) (hdep 2)
    have D3:=tV b 62 (.int .i64 (wF x.size)) (hdep 3)
    have D4:=tV b 63 (.int .i64 (134+wF x.size)) (hdep 4)
    have D5:=tQ b w.heap.size 64 9 (hdep 5)
    have D6:=tQ b w.heap.size 65 10 (hdep 6)
    have D7:=tV b 66 (.int .i64 (x.b.reg)) (hdep 7)
    have D8:=tQ b w.heap.size 67 3 (hdep 8)
    have D9:=tV b 68 (opV x.a) (hdep 9)
    have D10:=tB b u 69 (placedF (134+wF x.size) x.b.reg x.a ([])) (hdep 10)
    have D11:=tW b u 70 [namedF (144) x.b ([]),placedF (134+wF x.size) x.b.reg x.a ([])] (hdep 11)
    clear hdep
    rcases (show i=0 ∨ i=1 ∨ i=2 ∨ i=3 ∨ i=4 ∨ i=5 ∨ i=6 ∨ i=7 ∨ i=8 ∨ i=9 ∨ i=10 ∨ i=11 ∨ i=12 by omega) with rfl | rfl | rfl | rfl | rfl | rfl | rfl | rfl | rfl | rfl | rfl | rfl | rfl
    · cases ho;exact dr_val (by simp [execOp,Act.eval,b1,go_sem] <;> rfl) hinv rfl
    · cases ho;exact dr_val (dr_load 24 (.tmp 59) rfl _ (D0 (by kernel_rfl)) (box_b HX.out)) hinv rfl
    · cases ho;exact dr_bytes (by simp [execOp,Act.eval,D1 (by kernel_rfl),go_sem] <;> rfl) (named_any _ _ _ (by decide) (by decide) (by decide) (by decide) _ u (.inl ⟨rfl,rfl⟩)) hinv
    · cases ho;exact dr_val (by simp [execOp,Act.eval,b3,go_sem] <;> rfl) hinv rfl
    · cases ho;exact dr_val (by simp [execOp,Act.eval,D3 (by kernel_rfl),go_sem,or_w] <;> rfl) hinv rfl
    · cases ho;exact dr_val (by simp [execOp,Act.eval,b1,go_sem] <;> rfl) hinv rfl
    · cases ho;exact dr_val (by simp [execOp,Act.eval,D5 (by kernel_rfl),go_sem] <;> rfl) hinv rfl
    · cases ho;exact dr_val (dr_load 3 (.tmp 65) rfl _ (D6 (by kernel_rfl)) (box_int HX.out 10 _ rfl)) hinv rfl
    · cases ho;exact dr_val (by simp [execOp,Act.eval,b1,go_sem] <;> rfl) hinv rfl
    · cases ho;exact dr_val (dr_load 24 (.tmp 67) rfl _ (D8 (by kernel_rfl)) (box_a HX.out)) hinv rfl
    · cases ho;exact dr_bytes (by simp [execOp,Act.eval,D4 (by kernel_rfl),D7 (by kernel_rfl),D9 (by kernel_rfl),go_sem] <;> rfl) (placed_any _ _ _ ha.1 ha.2 _ (by decide) _ u (.inl ⟨rfl,rfl⟩)) hinv
    · cases ho;obtain ⟨a2,c2,e2⟩:=(D2 (by kernel_rfl)).len;obtain ⟨a10,c10,e10⟩:=(D10 (by kernel_rfl)).len;have h2:=D2 (by kernel_rfl);rw [e2] at h2;have h10:=D10 (by kernel_rfl);rw [e10] at h10;rw [Array.getD_eq_getD_getElem?] at e2 e10;exact dr_rows (T:=30) (vs:=[.slice a2 _ c2,.slice a10 _ c10]) (n:=2) (by exact ⟨h2,h10,trivial⟩) (by rfl) (by simp [execOp,Act.eval,e2,e10,go_sem] <;> rfl) hinv
    · cases ho;have h:=D11 (by kernel_rfl);obtain ⟨a,n,c,e⟩:=h.is;exact dr_val (by simp [execOp,Act.eval,e,go_sem] <;> rfl) hinv (by rw [e] at h;exact h)
  · intro f u hinv hV
    have q:BRows u (f 12) [namedF (144) x.b ([]),placedF (134+wF x.size) x.b.reg x.a ([])]:=hV 12 (by decide)
    generalize hb:laid _ f _ _=b
    have b4:b.tmps.getD 2 undef=f 12:=by rw [← hb];kernel_rfl
    have bd:b.defers=[]:=by rw [← hb];kernel_rfl
    clear hb
    rw [Array.getD_eq_getD_getElem?] at b4
    obtain ⟨a,m,c,e⟩:=q.is
    rw [e] at q b4
    have HQ:=Lib.hid q
    have HI:=Lib.hid (below_first hinv)
    clear hV q e hinv
    go_wp2_with fail
    exact bodyPost_ret (v:=.slice a m c) (by simp [results,Tryz.results42,go_sem,b4]) bd ⟨_,rfl,HQ.out,HI.out⟩
set_option maxRecDepth 512
def tab_moved_23 (x:Ins) (R:Nat):List Pm:=[.val (.pointer (some ⟨R,3,none⟩)),.val (opV x.a),.bytes (namedF (80) x.a ([])),.val (.pointer (some ⟨R,3,none⟩)),.val (.pointer (some ⟨R,8,none⟩)),.val (.int .u32 (x.a.disp)),.bytes (lowF x.a.disp 1),.bytes (spelledF (106) ++ (lowF x.a.disp 1)),.val (.pointer (some ⟨R,3,none⟩)),.val (.pointer (some ⟨R,8,none⟩)),.val (.int .u32 (x.a.disp)),.bytes (lowF x.a.disp 4),.bytes (spelledF (104) ++ (lowF x.a.disp 4)),.val (.pointer (some ⟨R,3,none⟩)),.val (opV x.a),.bytes (placedF (255) 6 x.a ([])),.rows [namedF (80) x.a ([]),spelledF (106) ++ (lowF x.a.disp 1),spelledF (104) ++ (lowF x.a.disp 4),placedF (255) 6 x.a ([])],.rows [namedF (80) x.a ([]),spelledF (106) ++ (lowF x.a.disp 1),spelledF (104) ++ (lowF x.a.disp 4),placedF (255) 6 x.a ([])]]
set_option maxRecDepth 100000
theorem moved_23 (x:Ins) (ha:0 ≤ x.a.disp∧x.a.disp < 4294967296) (hb:0 ≤ x.b.disp∧x.b.disp < 4294967296) (hop:x.op=23) (w:World):Calls Tryz.prog 42 #[insV x] w (RowsR w ((movedC 23 x.cond x.size x.rep).map (fillF x))):=by
  have _:=ha;have _:=hb
  have HW:=Lib.hid (wide_any x.size)
  have hc2:(insC x)[2]?=some (.int .i64 x.size):=rfl
  have hc0:(insC x)[0]?=some (.int .i64 23):=by rw [← hop];rfl
  clear hop
  unfold insV
  go_enter Tryz.func42,Tryz.ntmps42
  go_upto_region 8 with (go_at_call 35;(with_reducible refine (HW.out _).mono ?_);rintro e w' ⟨rfl,rfl⟩)
  refine dr_region (tab_moved_23 x w.heap.size) (by kernel_rfl) ?_ ?_
  · intro i o b u ho hinv hsz hbase hdep
    have hi:i < 18:=(Array.getElem?_eq_some_iff.1 ho).1
    have b1:b.tmps.getD 1 undef=(.pointer (some ⟨w.heap.size,0,none⟩)):=hbase 1 (by kernel_rfl)
    have HX:=Lib.hid (boxed x hinv)
    clear hbase hsz
    have D0:=tQ b w.heap.size 73 3 (hdep 0)
    have D1:=tV b 74 (opV x.a) (hdep 1)
    have D2:=tB b u 75 (namedF (80) x.a ([])) (hdep 2)
    have D3:=tQ b w.heap.size 76 3 (hdep 3)
    have D4:=tQ b w.heap.size 77 8 (hdep 4)
    have D5:=tV b 78 (.int .u32 (x.a.disp)) (hdep 5)
    have D6:=tB b u 79 (lowF x.a.disp 1) (hdep 6)
    have D7:=tB b u 80 (spelledF (106) ++ (lowF x.a.disp 1)) (hdep 7)
    have D8:=tQ b w.heap.size 81 3 (hdep 8)
    have D9:=tQ b w.heap.size 82 8 (hdep 9)
    have D10:=tV b 83 (.int .u32 (x.a.disp)) (hdep 10)
    have D11:=tB b u 84 (lowF x.a.disp 4) (hdep 11)
    have D12:=tB b u 85 (spelledF (104) ++ (lowF x.a.disp 4)) (hdep 12)
    have D13:=tQ b w.heap.size 86 3 (hdep 13)
    have D14:=tV b 87 (opV x.a) (hdep 14)
    have D15:=tB b u 88 (placedF (255) 6 x.a ([])) (hdep 15)
    have D16:=tW b u 89 [namedF (80) x.a ([]),spelledF (106) ++ (lowF x.a.disp 1),spelledF (104) ++ (lowF x.a.disp 4),placedF (255) 6 x.a ([])] (hdep 16)
    clear hdep
    rcases (show i=0 ∨ i=1 ∨ i=2 ∨ i=3 ∨ i=4 ∨ i=5 ∨ i=6 ∨ i=7 ∨ i=8 ∨ i=9 ∨ i=10 ∨ i=11 ∨ i=12 ∨ i=13 ∨ i=14 ∨ i=15 ∨ i=16 ∨ i=17 by omega) with rfl | rfl | rfl | rfl | rfl | rfl | rfl | rfl | rfl | rfl | rfl | rfl | rfl | rfl | rfl | rfl | rfl | rfl
    · cases ho;exact dr_val (by simp [execOp,Act.eval,b1,go_sem] <;> rfl) hinv rfl
    · cases ho;exact dr_val (dr_load 24 (.tmp 73) rfl _ (D0 (by kernel_rfl)) (box_a HX.out)) hinv rfl
    · cases ho;exact dr_bytes (by simp [execOp,Act.eval,D1 (by kernel_rfl),go_sem] <;> rfl) (named_any _ _ _ (by decide) (by decide) (by decide) (by decide) _ u (.inl ⟨rfl,rfl⟩)) hinv
    · cases ho;exact dr_val (by simp [execOp,Act.eval,b1,go_sem] <;> rfl) hinv rfl
    · cases ho;exact dr_val (by simp [execOp,Act.eval,D3 (by kernel_rfl),go_sem] <;> rfl) hinv rfl
    · cases ho;exact dr_val (dr_load 22 (.tmp 77) rfl _ (D4 (by kernel_rfl)) (box_u32 HX.out 8 _ rfl)) hinv rfl
    · cases ho;exact dr_bytes (by simp [execOp,Act.eval,D5 (by kernel_rfl),go_sem] <;> rfl) (low_any _ 1 (by decide) u) hinv
    · cases ho;obtain ⟨a6,c6,e6⟩:=(D6 (by kernel_rfl)).len;have h6:=D6 (by kernel_rfl);rw [e6] at h6;exact dr_bytes (by simp [execOp,Act.eval,e6,go_sem] <;> rfl) (plain_any _ _ (low_le _ _ (by decide)) _ u h6) hinv
    · cases ho;exact dr_val (by simp [execOp,Act.eval,b1,go_sem] <;> rfl) hinv rfl
    · cases ho;exact dr_val (by simp [execOp,Act.eval,D8 (by kernel_rfl),go_sem] <;> rfl) hinv rfl
    · cases ho;exact dr_val (dr_load 22 (.tmp 82) rfl _ (D9 (by kernel_rfl)) (box_u32 HX.out 8 _ rfl)) hinv rfl
    · cases ho;exact dr_bytes (by simp [execOp,Act.eval,D10 (by kernel_rfl),go_sem] <;> rfl) (low_any _ 4 (by decide) u) hinv
    · cases ho;obtain ⟨a11,c11,e11⟩:=(D11 (by kernel_rfl)).len;have h11:=D11 (by kernel_rfl);rw [e11] at h11;exact dr_bytes (by simp [execOp,Act.eval,e11,go_sem] <;> rfl) (plain_any _ _ (low_le _ _ (by decide)) _ u h11) hinv
    · cases ho;exact dr_val (by simp [execOp,Act.eval,b1,go_sem] <;> rfl) hinv rfl
    · cases ho;exact dr_val (dr_load 24 (.tmp 86) rfl _ (D13 (by kernel_rfl)) (box_a HX.out)) hinv rfl
    · cases ho;exact dr_bytes (by simp [execOp,Act.eval,D14 (by kernel_rfl),go_sem] <;> rfl) (placed_any _ _ _ ha.1 ha.2 _ (by decide) _ u (.inl ⟨rfl,rfl⟩)) hinv
    · cases ho;obtain ⟨a2,c2,e2⟩:=(D2 (by kernel_rfl)).len;obtain ⟨a7,c7,e7⟩:=(D7 (by kernel_rfl)).len;obtain ⟨a12,c12,e12⟩:=(D12 (by kernel_rfl)).len;obtain ⟨a15,c15,e15⟩:=(D15 (by kernel_rfl)).len;have h2:=D2 (by kernel_rfl);rw [e2] at h2;have h7:=D7 (by kernel_rfl);rw [e7] at h7;have h12:=D12 (by kernel_rfl);rw [e12] at h12;have h15:=D15 (by kernel_rfl);rw [e15] at h15;rw [Array.getD_eq_getD_getElem?] at e2 e7 e12 e15;exact dr_rows (T:=30) (vs:=[.slice a2 _ c2,.slice a7 _ c7,.slice a12 _ c12,.slice a15 _ c15]) (n:=4) (by exact ⟨h2,h7,h12,h15,trivial⟩) (by rfl) (by simp [execOp,Act.eval,e2,e7,e12,e15,go_sem] <;> rfl) hinv
    · cases ho;have h:=D16 (by kernel_rfl);obtain ⟨a,n,c,e⟩:=h.is;exact dr_val (by simp [execOp,Act.eval,e,go_sem] <;> rfl) hinv (by rw [e] at h;exact h)
  · intro f u hinv hV
    have q:BRows u (f 17) [namedF (80) x.a ([]),spelledF (106) ++ (lowF x.a.disp 1),spelledF (104) ++ (lowF x.a.disp 4),placedF (255) 6 x.a ([])]:=hV 17 (by decide)
    generalize hb:laid _ f _ _=b
    have b4:b.tmps.getD 2 undef=f 17:=by rw [← hb];kernel_rfl
    have bd:b.defers=[]:=by rw [← hb];kernel_rfl
    clear hb
    rw [Array.getD_eq_getD_getElem?] at b4
    obtain ⟨a,m,c,e⟩:=q.is
    rw [e] at q b4
    have HQ:=Lib.hid q
    have HI:=Lib.hid (below_first hinv)
    clear hV q e hinv
    go_wp2_with fail
    exact bodyPost_ret (v:=.slice a m c) (by simp [results,Tryz.results42,go_sem,b4]) bd ⟨_,rfl,HQ.out,HI.out⟩
set_option maxRecDepth 512
def tab_moved_24 (x:Ins) (R:Nat):List Pm:=[.val (.pointer (some ⟨R,3,none⟩)),.val (opV x.a),.bytes (namedF (88) x.a ([])),.val (.pointer (some ⟨R,3,none⟩)),.val (opV x.a),.bytes (placedF (143) 0 x.a ([])),.rows [namedF (88) x.a ([]),placedF (143) 0 x.a ([])],.rows [namedF (88) x.a ([]),placedF (143) 0 x.a ([])]]
set_option maxRecDepth 100000
theorem moved_24 (x:Ins) (ha:0 ≤ x.a.disp∧x.a.disp < 4294967296) (hb:0 ≤ x.b.disp∧x.b.disp < 4294967296) (hop:x.op=24) (w:World):Calls Tryz.prog 42 #[insV x] w (RowsR w ((movedC 24 x.cond x.size x.rep).map (fillF x))):=by
  have _:=ha;have _:=hb
  have HW:=Lib.hid (wide_any x.size)
  have hc2:(insC x)[2]?=some (.int .i64 x.size):=rfl
  have hc0:(insC x)[0]?=some (.int .i64 24):=by rw [← hop];rfl
  clear hop
  unfold insV
  go_enter Tryz.func42,Tryz.ntmps42
  go_upto_region 10 with (go_at_call 35;(with_reducible refine (HW.out _).mono ?_);rintro e w' ⟨rfl,rfl⟩)
  refine dr_region (tab_moved_24 x w.heap.size) (by kernel_rfl) ?_ ?_
  · intro i o b u ho hinv hsz hbase hdep
    have hi:i < 8:=(Array.getElem?_eq_some_iff.1 ho).1
    have b1:b.tmps.getD 1 undef=(.pointer (some ⟨w.heap.size,0,none⟩)):=hbase 1 (by kernel_rfl)
    have HX:=Lib.hid (boxed x hinv)
    clear hbase hsz
    have D0:=tQ b w.heap.size 92 3 (hdep 0)
    have D1:=tV b 93 (opV x.a) (hdep 1)
    have D2:=tB b u 94 (namedF (88) x.a ([])) (hdep 2)
    have D3:=tQ b w.heap.size 95 3 (hdep 3)
    have D4:=tV b 96 (opV x.a) (hdep 4)
    have D5:=tB b u 97 (placedF (143) 0 x.a ([])) (hdep 5)
    have D6:=tW b u 98 [namedF (88) x.a ([]),placedF (143) 0 x.a ([])] (hdep 6)
    clear hdep
    rcases (show i=0 ∨ i=1 ∨ i=2 ∨ i=3 ∨ i=4 ∨ i=5 ∨ i=6 ∨ i=7 by omega) with rfl | rfl | rfl | rfl | rfl | rfl | rfl | rfl
    · cases ho;exact dr_val (by simp [execOp,Act.eval,b1,go_sem] <;> rfl) hinv rfl
    · cases ho;exact dr_val (dr_load 24 (.tmp 92) rfl _ (D0 (by kernel_rfl)) (box_a HX.out)) hinv rfl
    · cases ho;exact dr_bytes (by simp [execOp,Act.eval,D1 (by kernel_rfl),go_sem] <;> rfl) (named_any _ _ _ (by decide) (by decide) (by decide) (by decide) _ u (.inl ⟨rfl,rfl⟩)) hinv
    · cases ho;exact dr_val (by simp [execOp,Act.eval,b1,go_sem] <;> rfl) hinv rfl
    · cases ho;exact dr_val (dr_load 24 (.tmp 95) rfl _ (D3 (by kernel_rfl)) (box_a HX.out)) hinv rfl
    · cases ho;exact dr_bytes (by simp [execOp,Act.eval,D4 (by kernel_rfl),go_sem] <;> rfl) (placed_any _ _ _ ha.1 ha.2 _ (by decide) _ u (.inl ⟨rfl,rfl⟩)) hinv
    · cases ho;obtain ⟨a2,c2,e2⟩:=(D2 (by kernel_rfl)).len;obtain ⟨a5,c5,e5⟩:=(D5 (by kernel_rfl)).len;have h2:=D2 (by kernel_rfl);rw [e2] at h2;have h5:=D5 (by kernel_rfl);rw [e5] at h5;rw [Array.getD_eq_getD_getElem?] at e2 e5;exact dr_rows (T:=30) (vs:=[.slice a2 _ c2,.slice a5 _ c5]) (n:=2) (by exact ⟨h2,h5,trivial⟩) (by rfl) (by simp [execOp,Act.eval,e2,e5,go_sem] <;> rfl) hinv
    · cases ho;have h:=D6 (by kernel_rfl);obtain ⟨a,n,c,e⟩:=h.is;exact dr_val (by simp [execOp,Act.eval,e,go_sem] <;> rfl) hinv (by rw [e] at h;exact h)
  · intro f u hinv hV
    have q:BRows u (f 7) [namedF (88) x.a ([]),placedF (143) 0 x.a ([])]:=hV 7 (by decide)
    generalize hb:laid _ f _ _=b
    have b4:b.tmps.getD 2 undef=f 7:=by rw [← hb];kernel_rfl
    have bd:b.defers=[]:=by rw [← hb];kernel_rfl
    clear hb
    rw [Array.getD_eq_getD_getElem?] at b4
    obtain ⟨a,m,c,e⟩:=q.is
    rw [e] at q b4
    have HQ:=Lib.hid q
    have HI:=Lib.hid (below_first hinv)
    clear hV q e hinv
    go_wp2_with fail
    exact bodyPost_ret (v:=.slice a m c) (by simp [results,Tryz.results42,go_sem,b4]) bd ⟨_,rfl,HQ.out,HI.out⟩
set_option maxRecDepth 512
def tab_moved_25 (x:Ins) (R:Nat):List Pm:=[.val (.pointer (some ⟨R,3,none⟩)),.val (.pointer (some ⟨R,4,none⟩)),.val (.int .i64 (x.a.reg)),.val (.pointer (some ⟨R,9,none⟩)),.val (opV x.b),.bytes (placedF (4015) x.a.reg x.b ([])),.val (.pointer (some ⟨R,3,none⟩)),.val (.pointer (some ⟨R,4,none⟩)),.val (.int .i64 (x.a.reg)),.val (.pointer (some ⟨R,9,none⟩)),.val (opV x.b),.val (.pointer (some ⟨R,15,none⟩)),.val (.int .u32 (x.c)),.bytes (lowF x.c 1),.bytes (placedF (107) x.a.reg x.b (lowF x.c 1)),.val (.pointer (some ⟨R,3,none⟩)),.val (.pointer (some ⟨R,4,none⟩)),.val (.int .i64 (x.a.reg)),.val (.pointer (some ⟨R,9,none⟩)),.val (opV x.b),.val (.pointer (some ⟨R,15,none⟩)),.val (.int .u32 (x.c)),.bytes (lowF x.c 4),.bytes (placedF (105) x.a.reg x.b (lowF x.c 4)),.rows [placedF (4015) x.a.reg x.b ([]),placedF (107) x.a.reg x.b (lowF x.c 1),placedF (105) x.a.reg x.b (lowF x.c 4)],.rows [placedF (4015) x.a.reg x.b ([]),placedF (107) x.a.reg x.b (lowF x.c 1),placedF (105) x.a.reg x.b (lowF x.c 4)]]
set_option maxRecDepth 100000
theorem moved_25 (x:Ins) (ha:0 ≤ x.a.disp∧x.a.disp < 4294967296) (hb:0 ≤ x.b.disp∧x.b.disp < 4294967296) (hop:x.op=25) (w:World):Calls Tryz.prog 42 #[insV x] w (RowsR w ((movedC 25 x.cond x.size x.rep).map (fillF x))):=by
  have _:=ha;have _:=hb
  have HW:=Lib.hid (wide_any x.size)
  have hc2:(insC x)[2]?=some (.int .i64 x.size):=rfl
  have hc0:(insC x)[0]?=some (.int .i64 25):=by rw [← hop];rfl
  clear hop
  unfold insV
  go_enter Tryz.func42,Tryz.ntmps42
  go_upto_region 12 with (go_at_call 35;(with_reducible refine (HW.out _).mono ?_);rintro e w' ⟨rfl,rfl⟩)
  refine dr_region (tab_moved_25 x w.heap.size) (by kernel_rfl) ?_ ?_
  · intro i o b u ho hinv hsz hbase hdep
    have hi:i < 26:=(Array.getElem?_eq_some_iff.1 ho).1
    have b1:b.tmps.getD 1 undef=(.pointer (some ⟨w.heap.size,0,none⟩)):=hbase 1 (by kernel_rfl)
    have HX:=Lib.hid (boxed x hinv)
    clear hbase hsz
    have D0:=tQ b w.heap.size 101 3 (hdep 0)
    have D1:=tQ b w.heap.size 102 4 (hdep 1)
    have D2:=tV b 103 (.int .i64 (x.a.reg)) (hdep 2)
    have D3:=tQ b w.heap.size 104 9 (hdep 3)
    have D4:=tV b 105 (opV x.b) (hdep 4)
    have D5:=tB b u 106 (placedF (4015) x.a.reg x.b ([])) (hdep 5)
    have D6:=tQ b w.heap.size 107 3 (hdep 6)
    have D7:=tQ b w.heap.size 108 4 (hdep 7)
    have D8:=tV b 109 (.int .i64 (x.a.reg)) (hdep 8)
    have D9:=tQ b w.heap.size 110 9 (hdep 9)
    have D10:=tV b 111 (opV x.b) (hdep 10)
    have D11:=tQ b w.heap.size 112 15 (hdep 11)
    have D12:=tV b 113 (.int .u32 (x.c)) (hdep 12)
    have D13:=tB b u 114 (lowF x.c 1) (hdep 13)
    have D14:=tB b u 115 (placedF (107) x.a.reg x.b (lowF x.c 1)) (hdep 14)
    have D15:=tQ b w.heap.size 116 3 (hdep 15)
    have D16:=tQ b w.heap.size 117 4 (hdep 16)
    have D17:=tV b 118 (.int .i64 (x.a.reg)) (hdep 17)
    have D18:=tQ b w.heap.size 119 9 (hdep 18)
    have D19:=tV b 120 (opV x.b) (hdep 19)
    have D20:=tQ b w.heap.size 121 15 (hdep 20)
    have D21:=tV b 122 (.int .u32 (x.c)) (hdep 21)
    have D22:=tB b u 123 (lowF x.c 4) (hdep 22)
    have D23:=tB b u 124 (placedF (105) x.a.reg x.b (lowF x.c 4)) (hdep 23)
    have D24:=tW b u 125 [placedF (4015) x.a.reg x.b ([]),placedF (107) x.a.reg x.b (lowF x.c 1),placedF (105) x.a.reg x.b (lowF x.c 4)] (hdep 24)
    clear hdep
    rcases (show i=0 ∨ i=1 ∨ i=2 ∨ i=3 ∨ i=4 ∨ i=5 ∨ i=6 ∨ i=7 ∨ i=8 ∨ i=9 ∨ i=10 ∨ i=11 ∨ i=12 ∨ i=13 ∨ i=14 ∨ i=15 ∨ i=16 ∨ i=17 ∨ i=18 ∨ i=19 ∨ i=20 ∨ i=21 ∨ i=22 ∨ i=23 ∨ i=24 ∨ i=25 by omega) with rfl | rfl | rfl | rfl | rfl | rfl | rfl | rfl | rfl | rfl | rfl | rfl | rfl | rfl | rfl | rfl | rfl | rfl | rfl | rfl | rfl | rfl | rfl | rfl | rfl | rfl
    · cases ho;exact dr_val (by simp [execOp,Act.eval,b1,go_sem] <;> rfl) hinv rfl
    · cases ho;exact dr_val (by simp [execOp,Act.eval,D0 (by kernel_rfl),go_sem] <;> rfl) hinv rfl
    · cases ho;exact dr_val (dr_load 3 (.tmp 102) rfl _ (D1 (by kernel_rfl)) (box_int HX.out 4 _ rfl)) hinv rfl
    · cases ho;exact dr_val (by simp [execOp,Act.eval,b1,go_sem] <;> rfl) hinv rfl
    · cases ho;exact dr_val (dr_load 24 (.tmp 104) rfl _ (D3 (by kernel_rfl)) (box_b HX.out)) hinv rfl
    · cases ho;exact dr_bytes (by simp [execOp,Act.eval,D2 (by kernel_rfl),D4 (by kernel_rfl),go_sem] <;> rfl) (placed_any _ _ _ hb.1 hb.2 _ (by decide) _ u (.inl ⟨rfl,rfl⟩)) hinv
    · cases ho;exact dr_val (by simp [execOp,Act.eval,b1,go_sem] <;> rfl) hinv rfl
    · cases ho;exact dr_val (by simp [execOp,Act.eval,D6 (by kernel_rfl),go_sem] <;> rfl) hinv rfl
    · cases ho;exact dr_val (dr_load 3 (.tmp 108) rfl _ (D7 (by kernel_rfl)) (box_int HX.out 4 _ rfl)) hinv rfl
    · cases ho;exact dr_val (by simp [execOp,Act.eval,b1,go_sem] <;> rfl) hinv rfl
    · cases ho;exact dr_val (dr_load 24 (.tmp 110) rfl _ (D9 (by kernel_rfl)) (box_b HX.out)) hinv rfl
    · cases ho;exact dr_val (by simp [execOp,Act.eval,b1,go_sem] <;> rfl) hinv rfl
    · cases ho;exact dr_val (dr_load 22 (.tmp 112) rfl _ (D11 (by kernel_rfl)) (box_u32 HX.out 15 _ rfl)) hinv rfl
    · cases ho;exact dr_bytes (by simp [execOp,Act.eval,D12 (by kernel_rfl),go_sem] <;> rfl) (low_any _ 1 (by decide) u) hinv
    · cases ho;obtain ⟨a13,c13,e13⟩:=(D13 (by kernel_rfl)).len;have h13:=D13 (by kernel_rfl);rw [e13] at h13;exact dr_bytes (by simp [execOp,Act.eval,D8 (by kernel_rfl),D10 (by kernel_rfl),e13,go_sem] <;> rfl) (placed_any _ _ _ hb.1 hb.2 _ (low_le _ _ (by decide)) _ u h13) hinv
    · cases ho;exact dr_val (by simp [execOp,Act.eval,b1,go_sem] <;> rfl) hinv rfl
    · cases ho;exact dr_val (by simp [execOp,Act.eval,D15 (by kernel_rfl),go_sem] <;> rfl) hinv rfl
    · cases ho;exact dr_val (dr_load 3 (.tmp 117) rfl _ (D16 (by kernel_rfl)) (box_int HX.out 4 _ rfl)) hinv rfl
    · cases ho;exact dr_val (by simp [execOp,Act.eval,b1,go_sem] <;> rfl) hinv rfl
    · cases ho;exact dr_val (dr_load 24 (.tmp 119) rfl _ (D18 (by kernel_rfl)) (box_b HX.out)) hinv rfl
    · cases ho;exact dr_val (by simp [execOp,Act.eval,b1,go_sem] <;> rfl) hinv rfl
    · cases ho;exact dr_val (dr_load 22 (.tmp 121) rfl _ (D20 (by kernel_rfl)) (box_u32 HX.out 15 _ rfl)) hinv rfl
    · cases ho;exact dr_bytes (by simp [execOp,Act.eval,D21 (by kernel_rfl),go_sem] <;> rfl) (low_any _ 4 (by decide) u) hinv
    · cases ho;obtain ⟨a22,c22,e22⟩:=(D22 (by kernel_rfl)).len;have h22:=D22 (by kernel_rfl);rw [e22] at h22;exact dr_bytes (by simp [execOp,Act.eval,D17 (by kernel_rfl),D19 (by kernel_rfl),e22,go_sem] <;> rfl) (placed_any _ _ _ hb.1 hb.2 _ (low_le _ _ (by decide)) _ u h22) hinv
    · cases ho;obtain ⟨a5,c5,e5⟩:=(D5 (by kernel_rfl)).len;obtain ⟨a14,c14,e14⟩:=(D14 (by kernel_rfl)).len;obtain ⟨a23,c23,e23⟩:=(D23 (by kernel_rfl)).len;have h5:=D5 (by kernel_rfl);rw [e5] at h5;have h14:=D14 (by kernel_rfl);rw [e14] at h14;have h23:=D23 (by kernel_rfl);rw [e23] at h23;rw [Array.getD_eq_getD_getElem?] at e5 e14 e23;exact dr_rows (T:=30) (vs:=[.slice a5 _ c5,.slice a14 _ c14,.slice a23 _ c23]) (n:=3) (by exact ⟨h5,h14,h23,trivial⟩) (by rfl) (by simp [execOp,Act.eval,e5,e14,e23,go_sem] <;> rfl) hinv
    · cases ho;have h:=D24 (by kernel_rfl);obtain ⟨a,n,c,e⟩:=h.is;exact dr_val (by simp [execOp,Act.eval,e,go_sem] <;> rfl) hinv (by rw [e] at h;exact h)
  · intro f u hinv hV
    have q:BRows u (f 25) [placedF (4015) x.a.reg x.b ([]),placedF (107) x.a.reg x.b (lowF x.c 1),placedF (105) x.a.reg x.b (lowF x.c 4)]:=hV 25 (by decide)
    generalize hb:laid _ f _ _=b
    have b4:b.tmps.getD 2 undef=f 25:=by rw [← hb];kernel_rfl
    have bd:b.defers=[]:=by rw [← hb];kernel_rfl
    clear hb
    rw [Array.getD_eq_getD_getElem?] at b4
    obtain ⟨a,m,c,e⟩:=q.is
    rw [e] at q b4
    have HQ:=Lib.hid q
    have HI:=Lib.hid (below_first hinv)
    clear hV q e hinv
    go_wp2_with fail
    exact bodyPost_ret (v:=.slice a m c) (by simp [results,Tryz.results42,go_sem,b4]) bd ⟨_,rfl,HQ.out,HI.out⟩
set_option maxRecDepth 512
def tab_moved_51 (x:Ins) (R:Nat):List Pm:=[.val (.pointer (some ⟨R,3,none⟩)),.val (.pointer (some ⟨R,4,none⟩)),.val (.int .i64 (x.a.reg)),.val (.pointer (some ⟨R,9,none⟩)),.val (opV x.b),.bytes (placedF (15863568) x.a.reg x.b ([])),.val (.pointer (some ⟨R,9,none⟩)),.val (.pointer (some ⟨R,10,none⟩)),.val (.int .i64 (x.b.reg)),.val (.pointer (some ⟨R,3,none⟩)),.val (opV x.a),.bytes (placedF (15863569) x.b.reg x.a ([])),.rows [placedF (15863568) x.a.reg x.b ([]),placedF (15863569) x.b.reg x.a ([])],.rows [placedF (15863568) x.a.reg x.b ([]),placedF (15863569) x.b.reg x.a ([])]]
set_option maxRecDepth 100000
theorem moved_51 (x:Ins) (ha:0 ≤ x.a.disp∧x.a.disp < 4294967296) (hb:0 ≤ x.b.disp∧x.b.disp < 4294967296) (hop:x.op=51) (w:World):Calls Tryz.prog 42 #[insV x] w (RowsR w ((movedC 51 x.cond x.size x.rep).map (fillF x))):=by
  have _:=ha;have _:=hb
  have HW:=Lib.hid (wide_any x.size)
  have hc2:(insC x)[2]?=some (.int .i64 x.size):=rfl
  have hc0:(insC x)[0]?=some (.int .i64 51):=by rw [← hop];rfl
  clear hop
  unfold insV
  go_enter Tryz.func42,Tryz.ntmps42
  go_upto_region 14 with (go_at_call 35;(with_reducible refine (HW.out _).mono ?_);rintro e w' ⟨rfl,rfl⟩)
  refine dr_region (tab_moved_51 x w.heap.size) (by kernel_rfl) ?_ ?_
  · intro i o b u ho hinv hsz hbase hdep
    have hi:i < 14:=(Array.getElem?_eq_some_iff.1 ho).1
    have b1:b.tmps.getD 1 undef=(.pointer (some ⟨w.heap.size,0,none⟩)):=hbase 1 (by kernel_rfl)
    have HX:=Lib.hid (boxed x hinv)
    clear hbase hsz
    have D0:=tQ b w.heap.size 128 3 (hdep 0)
    have D1:=tQ b w.heap.size 129 4 (hdep 1)
    have D2:=tV b 130 (.int .i64 (x.a.reg)) (hdep 2)
    have D3:=tQ b w.heap.size 131 9 (hdep 3)
    have D4:=tV b 132 (opV x.b) (hdep 4)
    have D5:=tB b u 133 (placedF (15863568) x.a.reg x.b ([])) (hdep 5)
    have D6:=tQ b w.heap.size 134 9 (hdep 6)
    have D7:=tQ b w.heap.size 135 10 (hdep 7)
    have D8:=tV b 136 (.int .i64 (x.b.reg)) (hdep 8)
    have D9:=tQ b w.heap.size 137 3 (hdep 9)
    have D10:=tV b 138 (opV x.a) (hdep 10)
    have D11:=tB b u 139 (placedF (15863569) x.b.reg x.a ([])) (hdep 11)
    have D12:=tW b u 140 [placedF (15863568) x.a.reg x.b ([]),placedF (15863569) x.b.reg x.a ([])] (hdep 12)
    clear hdep
    rcases (show i=0 ∨ i=1 ∨ i=2 ∨ i=3 ∨ i=4 ∨ i=5 ∨ i=6 ∨ i=7 ∨ i=8 ∨ i=9 ∨ i=10 ∨ i=11 ∨ i=12 ∨ i=13 by omega) with rfl | rfl | rfl | rfl | rfl | rfl | rfl | rfl | rfl | rfl | rfl | rfl | rfl | rfl
    · cases ho;exact dr_val (by simp [execOp,Act.eval,b1,go_sem] <;> rfl) hinv rfl
    · cases ho;exact dr_val (by simp [execOp,Act.eval,D0 (by kernel_rfl),go_sem] <;> rfl) hinv rfl
    · cases ho;exact dr_val (dr_load 3 (.tmp 129) rfl _ (D1 (by kernel_rfl)) (box_int HX.out 4 _ rfl)) hinv rfl
    · cases ho;exact dr_val (by simp [execOp,Act.eval,b1,go_sem] <;> rfl) hinv rfl
    · cases ho;exact dr_val (dr_load 24 (.tmp 131) rfl _ (D3 (by kernel_rfl)) (box_b HX.out)) hinv rfl
    · cases ho;exact dr_bytes (by simp [execOp,Act.eval,D2 (by kernel_rfl),D4 (by kernel_rfl),go_sem] <;> rfl) (placed_any _ _ _ hb.1 hb.2 _ (by decide) _ u (.inl ⟨rfl,rfl⟩)) hinv
    · cases ho;exact dr_val (by simp [execOp,Act.eval,b1,go_sem] <;> rfl) hinv rfl
    · cases ho;exact dr_val (by simp [execOp,Act.eval,D6 (by kernel_rfl),go_sem] <;> rfl) hinv rfl
    · cases ho;exact dr_val (dr_load 3 (.tmp 135) rfl _ (D7 (by kernel_rfl)) (box_int HX.out 10 _ rfl)) hinv rfl
    · cases ho;exact dr_val (by simp [execOp,Act.eval,b1,go_sem] <;> rfl) hinv rfl
    · cases ho;exact dr_val (dr_load 24 (.tmp 137) rfl _ (D9 (by kernel_rfl)) (box_a HX.out)) hinv rfl
    · cases ho;exact dr_bytes (by simp [execOp,Act.eval,D8 (by kernel_rfl),D10 (by kernel_rfl),go_sem] <;> rfl) (placed_any _ _ _ ha.1 ha.2 _ (by decide) _ u (.inl ⟨rfl,rfl⟩)) hinv
    · cases ho;obtain ⟨a5,c5,e5⟩:=(D5 (by kernel_rfl)).len;obtain ⟨a11,c11,e11⟩:=(D11 (by kernel_rfl)).len;have h5:=D5 (by kernel_rfl);rw [e5] at h5;have h11:=D11 (by kernel_rfl);rw [e11] at h11;rw [Array.getD_eq_getD_getElem?] at e5 e11;exact dr_rows (T:=30) (vs:=[.slice a5 _ c5,.slice a11 _ c11]) (n:=2) (by exact ⟨h5,h11,trivial⟩) (by rfl) (by simp [execOp,Act.eval,e5,e11,go_sem] <;> rfl) hinv
    · cases ho;have h:=D12 (by kernel_rfl);obtain ⟨a,n,c,e⟩:=h.is;exact dr_val (by simp [execOp,Act.eval,e,go_sem] <;> rfl) hinv (by rw [e] at h;exact h)
  · intro f u hinv hV
    have q:BRows u (f 13) [placedF (15863568) x.a.reg x.b ([]),placedF (15863569) x.b.reg x.a ([])]:=hV 13 (by decide)
    generalize hb:laid _ f _ _=b
    have b4:b.tmps.getD 2 undef=f 13:=by rw [← hb];kernel_rfl
    have bd:b.defers=[]:=by rw [← hb];kernel_rfl
    clear hb
    rw [Array.getD_eq_getD_getElem?] at b4
    obtain ⟨a,m,c,e⟩:=q.is
    rw [e] at q b4
    have HQ:=Lib.hid q
    have HI:=Lib.hid (below_first hinv)
    clear hV q e hinv
    go_wp2_with fail
    exact bodyPost_ret (v:=.slice a m c) (by simp [results,Tryz.results42,go_sem,b4]) bd ⟨_,rfl,HQ.out,HI.out⟩
end Go.Proofs.YtlnahkkemjgjbaaGreat
