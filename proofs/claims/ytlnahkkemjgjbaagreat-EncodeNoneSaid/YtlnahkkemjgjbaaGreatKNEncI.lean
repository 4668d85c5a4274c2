import Derived.Test.YtlnahkkemjgjbaaGreatKNC11
namespace Go.Proofs.YtlnahkkemjgjbaaGreat
open Go.ChangeShapes Go.WideShapes Go.ChangeAt Go.RowKit
def tab_led_31 (x:Ins) (R:Nat):List Pm:=[.val (insV x),.val (.int .i64 (x.cond % 16)),.val (.int .i64 (112+x.cond % 16)),.val (.pointer (some ⟨R,3,none⟩)),.val (.pointer (some ⟨R,8,none⟩)),.val (.int .u32 (x.a.disp)),.bytes (lowF x.a.disp 1),.bytes (spelledF (112+x.cond % 16) ++ (lowF x.a.disp 1)),.val (insV x),.val (.int .i64 (x.cond % 16)),.val (.int .i64 (3968+x.cond % 16)),.val (.pointer (some ⟨R,3,none⟩)),.val (.pointer (some ⟨R,8,none⟩)),.val (.int .u32 (x.a.disp)),.bytes (lowF x.a.disp 4),.bytes (spelledF (3968+x.cond % 16) ++ (lowF x.a.disp 4)),.rows [spelledF (112+x.cond % 16) ++ (lowF x.a.disp 1),spelledF (3968+x.cond % 16) ++ (lowF x.a.disp 4)],.rows [spelledF (112+x.cond % 16) ++ (lowF x.a.disp 1),spelledF (3968+x.cond % 16) ++ (lowF x.a.disp 4)]]
set_option maxRecDepth 100000
set_option maxHeartbeats 4000000
theorem led_31 (x:Ins) (ha:0 ≤ x.a.disp∧x.a.disp < 4294967296) (hb:0 ≤ x.b.disp∧x.b.disp < 4294967296) (hop:x.op=31) (w:World):Calls Tryz.prog 60 #[insV x] w (RowsR w ((ledC 31 x.cond x.size x.rep).map (fillF x))):=by
  have _:=ha;have _:=hb
  have hc0:(insC x)[0]?=some (.int .i64 31):=by rw [← hop];rfl
  clear hop
  unfold insV
  go_enter Tryz.func60,Tryz.ntmps60
  go_upto_region 3 with fail
  refine dr_region (tab_led_31 x w.heap.size) (by kernel_rfl) ?_ ?_
  · intro i o b u ho hinv hsz hbase hdep
    have hi:i < 18:=(Array.getElem?_eq_some_iff.1 ho).1
    have b1:b.tmps.getD 1 undef=(.pointer (some ⟨w.heap.size,0,none⟩)):=hbase 1 (by kernel_rfl)
    have HX:=Lib.hid (boxed x hinv)
    clear hbase hsz
    have D0:=tV b 7 (insV x) (hdep 0)
    have D1:=tV b 8 (.int .i64 (x.cond % 16)) (hdep 1)
    have D2:=tV b 9 (.int .i64 (112+x.cond % 16)) (hdep 2)
    have D3:=tQ b w.heap.size 10 3 (hdep 3)
    have D4:=tQ b w.heap.size 11 8 (hdep 4)
    have D5:=tV b 12 (.int .u32 (x.a.disp)) (hdep 5)
    have D6:=tB b u 13 (lowF x.a.disp 1) (hdep 6)
    have D7:=tB b u 14 (spelledF (112+x.cond % 16) ++ (lowF x.a.disp 1)) (hdep 7)
    have D8:=tV b 15 (insV x) (hdep 8)
    have D9:=tV b 16 (.int .i64 (x.cond % 16)) (hdep 9)
    have D10:=tV b 17 (.int .i64 (3968+x.cond % 16)) (hdep 10)
    have D11:=tQ b w.heap.size 18 3 (hdep 11)
    have D12:=tQ b w.heap.size 19 8 (hdep 12)
    have D13:=tV b 20 (.int .u32 (x.a.disp)) (hdep 13)
    have D14:=tB b u 21 (lowF x.a.disp 4) (hdep 14)
    have D15:=tB b u 22 (spelledF (3968+x.cond % 16) ++ (lowF x.a.disp 4)) (hdep 15)
    have D16:=tW b u 23 [spelledF (112+x.cond % 16) ++ (lowF x.a.disp 1),spelledF (3968+x.cond % 16) ++ (lowF x.a.disp 4)] (hdep 16)
    clear hdep
    rcases (show i=0 ∨ i=1 ∨ i=2 ∨ i=3 ∨ i=4 ∨ i=5 ∨ i=6 ∨ i=7 ∨ i=8 ∨ i=9 ∨ i=10 ∨ i=11 ∨ i=12 ∨ i=13 ∨ i=14 ∨ i=15 ∨ i=16 ∨ i=17 by omega) with rfl | rfl | rfl | rfl | rfl | rfl | rfl | rfl | rfl | rfl | rfl | rfl | rfl | rfl | rfl | rfl | rfl | rfl
    · cases ho;exact dr_val (dr_load 26 (.tmp 1) rfl _ (b1) (box_ins HX.out)) hinv rfl
    · cases ho;refine wp_call (by simp [execOp,Act.eval,D0 (by kernel_rfl),go_sem] <;> rfl) ((condition_any _ u).mono ?_);rintro e u1 ⟨rfl,hb⟩;exact ⟨_,rfl,_,rfl,below_step hinv hb,hb,rfl⟩
    · cases ho;exact dr_val (by simp [execOp,Act.eval,D1 (by kernel_rfl),go_sem,or_c] <;> rfl) hinv rfl
    · cases ho;exact dr_val (by simp [execOp,Act.eval,b1,go_sem] <;> rfl) hinv rfl
    · cases ho;exact dr_val (by simp [execOp,Act.eval,D3 (by kernel_rfl),go_sem] <;> rfl) hinv rfl
    · cases ho;exact dr_val (dr_load 22 (.tmp 11) rfl _ (D4 (by kernel_rfl)) (box_u32 HX.out 8 _ rfl)) hinv rfl
    · cases ho;exact dr_bytes (by simp [execOp,Act.eval,D5 (by kernel_rfl),go_sem] <;> rfl) (low_any _ 1 (by decide) u) hinv
    · cases ho;obtain ⟨a6,c6,e6⟩:=(D6 (by kernel_rfl)).len;have h6:=D6 (by kernel_rfl);rw [e6] at h6;exact dr_bytes (by simp [execOp,Act.eval,D2 (by kernel_rfl),e6,go_sem] <;> rfl) (plain_any _ _ (low_le _ _ (by decide)) _ u h6) hinv
    · cases ho;exact dr_val (dr_load 26 (.tmp 1) rfl _ (b1) (box_ins HX.out)) hinv rfl
    · cases ho;refine wp_call (by simp [execOp,Act.eval,D8 (by kernel_rfl),go_sem] <;> rfl) ((condition_any _ u).mono ?_);rintro e u1 ⟨rfl,hb⟩;exact ⟨_,rfl,_,rfl,below_step hinv hb,hb,rfl⟩
    · cases ho;exact dr_val (by simp [execOp,Act.eval,D9 (by kernel_rfl),go_sem,or_c] <;> rfl) hinv rfl
    · cases ho;exact dr_val (by simp [execOp,Act.eval,b1,go_sem] <;> rfl) hinv rfl
    · cases ho;exact dr_val (by simp [execOp,Act.eval,D11 (by kernel_rfl),go_sem] <;> rfl) hinv rfl
    · cases ho;exact dr_val (dr_load 22 (.tmp 19) rfl _ (D12 (by kernel_rfl)) (box_u32 HX.out 8 _ rfl)) hinv rfl
    · cases ho;exact dr_bytes (by simp [execOp,Act.eval,D13 (by kernel_rfl),go_sem] <;> rfl) (low_any _ 4 (by decide) u) hinv
    · cases ho;obtain ⟨a14,c14,e14⟩:=(D14 (by kernel_rfl)).len;have h14:=D14 (by kernel_rfl);rw [e14] at h14;exact dr_bytes (by simp [execOp,Act.eval,D10 (by kernel_rfl),e14,go_sem] <;> rfl) (plain_any _ _ (low_le _ _ (by decide)) _ u h14) hinv
    · cases ho;obtain ⟨a7,c7,e7⟩:=(D7 (by kernel_rfl)).len;obtain ⟨a15,c15,e15⟩:=(D15 (by kernel_rfl)).len;have h7:=D7 (by kernel_rfl);rw [e7] at h7;have h15:=D15 (by kernel_rfl);rw [e15] at h15;rw [Array.getD_eq_getD_getElem?] at e7 e15;exact dr_rows (T:=30) (vs:=[.slice a7 _ c7,.slice a15 _ c15]) (n:=2) (by exact ⟨h7,h15,trivial⟩) (by rfl) (by simp [execOp,Act.eval,e7,e15,go_sem] <;> rfl) hinv
    · cases ho;have h:=D16 (by kernel_rfl);obtain ⟨a,n,c,e⟩:=h.is;exact dr_val (by simp [execOp,Act.eval,e,go_sem] <;> rfl) hinv (by rw [e] at h;exact h)
  · intro f u hinv hV
    have q:BRows u (f 17) [spelledF (112+x.cond % 16) ++ (lowF x.a.disp 1),spelledF (3968+x.cond % 16) ++ (lowF x.a.disp 4)]:=hV 17 (by decide)
    generalize hb:laid _ f _ _=b
    have b4:b.tmps.getD 2 undef=f 17:=by rw [← hb];kernel_rfl
    have bd:b.defers=[]:=by rw [← hb];kernel_rfl
    clear hb
    rw [Array.getD_eq_getD_getElem?] at b4
    obtain ⟨a,m,c,e⟩:=q.is
    rw [e] at q b4
    have HQ:=Lib.hid q
    have HI:=Lib.hid (below_first hinv)
    clear hV q e hinv
    go_wp2_with fail
    exact bodyPost_ret (v:=.slice a m c) (by simp [results,Tryz.results60,go_sem,b4]) bd ⟨_,rfl,HQ.out,HI.out⟩
set_option maxRecDepth 512
def tab_led_32 (x:Ins) (R:Nat):List Pm:=[.val (.pointer (some ⟨R,3,none⟩)),.val (.pointer (some ⟨R,8,none⟩)),.val (.int .u32 (x.a.disp)),.bytes (lowF x.a.disp 1),.bytes (spelledF (235) ++ (lowF x.a.disp 1)),.val (.pointer (some ⟨R,3,none⟩)),.val (.pointer (some ⟨R,8,none⟩)),.val (.int .u32 (x.a.disp)),.bytes (lowF x.a.disp 4),.bytes (spelledF (233) ++ (lowF x.a.disp 4)),.val (.pointer (some ⟨R,3,none⟩)),.val (opV x.a),.bytes (placedF (255) 4 x.a ([])),.rows [spelledF (235) ++ (lowF x.a.disp 1),spelledF (233) ++ (lowF x.a.disp 4),placedF (255) 4 x.a ([])],.rows [spelledF (235) ++ (lowF x.a.disp 1),spelledF (233) ++ (lowF x.a.disp 4),placedF (255) 4 x.a ([])]]
set_option maxRecDepth 100000
theorem led_32 (x:Ins) (ha:0 ≤ x.a.disp∧x.a.disp < 4294967296) (hb:0 ≤ x.b.disp∧x.b.disp < 4294967296) (hop:x.op=32) (w:World):Calls Tryz.prog 60 #[insV x] w (RowsR w ((ledC 32 x.cond x.size x.rep).map (fillF x))):=by
  have _:=ha;have _:=hb
  have hc0:(insC x)[0]?=some (.int .i64 32):=by rw [← hop];rfl
  clear hop
  unfold insV
  go_enter Tryz.func60,Tryz.ntmps60
  go_upto_region 5 with fail
  refine dr_region (tab_led_32 x w.heap.size) (by kernel_rfl) ?_ ?_
  · intro i o b u ho hinv hsz hbase hdep
    have hi:i < 15:=(Array.getElem?_eq_some_iff.1 ho).1
    have b1:b.tmps.getD 1 undef=(.pointer (some ⟨w.heap.size,0,none⟩)):=hbase 1 (by kernel_rfl)
    have HX:=Lib.hid (boxed x hinv)
    clear hbase hsz
    have D0:=tQ b w.heap.size 26 3 (hdep 0)
    have D1:=tQ b w.heap.size 27 8 (hdep 1)
    have D2:=tV b 28 (.int .u32 (x.a.disp)) (hdep 2)
    have D3:=tB b u 29 (lowF x.a.disp 1) (hdep 3)
    have D4:=tB b u 30 (spelledF (235) ++ (lowF x.a.disp 1)) (hdep 4)
    have D5:=tQ b w.heap.size 31 3 (hdep 5)
    have D6:=tQ b w.heap.size 32 8 (hdep 6)
    have D7:=tV b 33 (.int .u32 (x.a.disp)) (hdep 7)
    have D8:=tB b u 34 (lowF x.a.disp 4) (hdep 8)
    have D9:=tB b u 35 (spelledF (233) ++ (lowF x.a.disp 4)) (hdep 9)
    have D10:=tQ b w.heap.size 36 3 (hdep 10)
    have D11:=tV b 37 (opV x.a) (hdep 11)
    have D12:=tB b u 38 (placedF (255) 4 x.a ([])) (hdep 12)
    have D13:=tW b u 39 [spelledF (235) ++ (lowF x.a.disp 1),spelledF (233) ++ (lowF x.a.disp 4),placedF (255) 4 x.a ([])] (hdep 13)
    clear hdep
    rcases (show i=0 ∨ i=1 ∨ i=2 ∨ i=3 ∨ i=4 ∨ i=5 ∨ i=6 ∨ i=7 ∨ i=8 ∨ i=9 ∨ i=10 ∨ i=11 ∨ i=12 ∨ i=13 ∨ i=14 by omega) with rfl | rfl | rfl | rfl | rfl | rfl | rfl | rfl | rfl | rfl | rfl | rfl | rfl | rfl | rfl
    · cases ho;exact dr_val (by simp [execOp,Act.eval,b1,go_sem] <;> rfl) hinv rfl
    · cases ho;exact dr_val (by simp [execOp,Act.eval,D0 (by kernel_rfl),go_sem] <;> rfl) hinv rfl
    · cases ho;exact dr_val (dr_load 22 (.tmp 27) rfl _ (D1 (by kernel_rfl)) (box_u32 HX.out 8 _ rfl)) hinv rfl
    · cases ho;exact dr_bytes (by simp [execOp,Act.eval,D2 (by kernel_rfl),go_sem] <;> rfl) (low_any _ 1 (by decide) u) hinv
    · cases ho;obtain ⟨a3,c3,e3⟩:=(D3 (by kernel_rfl)).len;have h3:=D3 (by kernel_rfl);rw [e3] at h3;exact dr_bytes (by simp [execOp,Act.eval,e3,go_sem] <;> rfl) (plain_any _ _ (low_le _ _ (by decide)) _ u h3) hinv
    · cases ho;exact dr_val (by simp [execOp,Act.eval,b1,go_sem] <;> rfl) hinv rfl
    · cases ho;exact dr_val (by simp [execOp,Act.eval,D5 (by kernel_rfl),go_sem] <;> rfl) hinv rfl
    · cases ho;exact dr_val (dr_load 22 (.tmp 32) rfl _ (D6 (by kernel_rfl)) (box_u32 HX.out 8 _ rfl)) hinv rfl
    · cases ho;exact dr_bytes (by simp [execOp,Act.eval,D7 (by kernel_rfl),go_sem] <;> rfl) (low_any _ 4 (by decide) u) hinv
    · cases ho;obtain ⟨a8,c8,e8⟩:=(D8 (by kernel_rfl)).len;have h8:=D8 (by kernel_rfl);rw [e8] at h8;exact dr_bytes (by simp [execOp,Act.eval,e8,go_sem] <;> rfl) (plain_any _ _ (low_le _ _ (by decide)) _ u h8) hinv
    · cases ho;exact dr_val (by simp [execOp,Act.eval,b1,go_sem] <;> rfl) hinv rfl
    · cases ho;exact dr_val (dr_load 24 (.tmp 36) rfl _ (D10 (by kernel_rfl)) (box_a HX.out)) hinv rfl
    · cases ho;exact dr_bytes (by simp [execOp,Act.eval,D11 (by kernel_rfl),go_sem] <;> rfl) (placed_any _ _ _ ha.1 ha.2 _ (by decide) _ u (.inl ⟨rfl,rfl⟩)) hinv
    · cases ho;obtain ⟨a4,c4,e4⟩:=(D4 (by kernel_rfl)).len;obtain ⟨a9,c9,e9⟩:=(D9 (by kernel_rfl)).len;obtain ⟨a12,c12,e12⟩:=(D12 (by kernel_rfl)).len;have h4:=D4 (by kernel_rfl);rw [e4] at h4;have h9:=D9 (by kernel_rfl);rw [e9] at h9;have h12:=D12 (by kernel_rfl);rw [e12] at h12;rw [Array.getD_eq_getD_getElem?] at e4 e9 e12;exact dr_rows (T:=30) (vs:=[.slice a4 _ c4,.slice a9 _ c9,.slice a12 _ c12]) (n:=3) (by exact ⟨h4,h9,h12,trivial⟩) (by rfl) (by simp [execOp,Act.eval,e4,e9,e12,go_sem] <;> rfl) hinv
    · cases ho;have h:=D13 (by kernel_rfl);obtain ⟨a,n,c,e⟩:=h.is;exact dr_val (by simp [execOp,Act.eval,e,go_sem] <;> rfl) hinv (by rw [e] at h;exact h)
  · intro f u hinv hV
    have q:BRows u (f 14) [spelledF (235) ++ (lowF x.a.disp 1),spelledF (233) ++ (lowF x.a.disp 4),placedF (255) 4 x.a ([])]:=hV 14 (by decide)
    generalize hb:laid _ f _ _=b
    have b4:b.tmps.getD 2 undef=f 14:=by rw [← hb];kernel_rfl
    have bd:b.defers=[]:=by rw [← hb];kernel_rfl
    clear hb
    rw [Array.getD_eq_getD_getElem?] at b4
    obtain ⟨a,m,c,e⟩:=q.is
    rw [e] at q b4
    have HQ:=Lib.hid q
    have HI:=Lib.hid (below_first hinv)
    clear hV q e hinv
    go_wp2_with fail
    exact bodyPost_ret (v:=.slice a m c) (by simp [results,Tryz.results60,go_sem,b4]) bd ⟨_,rfl,HQ.out,HI.out⟩
set_option maxRecDepth 512
def tab_led_33 (x:Ins) (R:Nat):List Pm:=[.val (.pointer (some ⟨R,3,none⟩)),.val (.pointer (some ⟨R,8,none⟩)),.val (.int .u32 (x.a.disp)),.bytes (lowF x.a.disp 4),.bytes (spelledF (232) ++ (lowF x.a.disp 4)),.val (.pointer (some ⟨R,3,none⟩)),.val (opV x.a),.bytes (placedF (255) 2 x.a ([])),.rows [spelledF (232) ++ (lowF x.a.disp 4),placedF (255) 2 x.a ([])],.rows [spelledF (232) ++ (lowF x.a.disp 4),placedF (255) 2 x.a ([])]]
set_option maxRecDepth 100000
theorem led_33 (x:Ins) (ha:0 ≤ x.a.disp∧x.a.disp < 4294967296) (hb:0 ≤ x.b.disp∧x.b.disp < 4294967296) (hop:x.op=33) (w:World):Calls Tryz.prog 60 #[insV x] w (RowsR w ((ledC 33 x.cond x.size x.rep).map (fillF x))):=by
  have _:=ha;have _:=hb
  have hc0:(insC x)[0]?=some (.int .i64 33):=by rw [← hop];rfl
  clear hop
  unfold insV
  go_enter Tryz.func60,Tryz.ntmps60
  go_upto_region 7 with fail
  refine dr_region (tab_led_33 x w.heap.size) (by kernel_rfl) ?_ ?_
  · intro i o b u ho hinv hsz hbase hdep
    have hi:i < 10:=(Array.getElem?_eq_some_iff.1 ho).1
    have b1:b.tmps.getD 1 undef=(.pointer (some ⟨w.heap.size,0,none⟩)):=hbase 1 (by kernel_rfl)
    have HX:=Lib.hid (boxed x hinv)
    clear hbase hsz
    have D0:=tQ b w.heap.size 42 3 (hdep 0)
    have D1:=tQ b w.heap.size 43 8 (hdep 1)
    have D2:=tV b 44 (.int .u32 (x.a.disp)) (hdep 2)
    have D3:=tB b u 45 (lowF x.a.disp 4) (hdep 3)
    have D4:=tB b u 46 (spelledF (232) ++ (lowF x.a.disp 4)) (hdep 4)
    have D5:=tQ b w.heap.size 47 3 (hdep 5)
    have D6:=tV b 48 (opV x.a) (hdep 6)
    have D7:=tB b u 49 (placedF (255) 2 x.a ([])) (hdep 7)
    have D8:=tW b u 50 [spelledF (232) ++ (lowF x.a.disp 4),placedF (255) 2 x.a ([])] (hdep 8)
    clear hdep
    rcases (show i=0 ∨ i=1 ∨ i=2 ∨ i=3 ∨ i=4 ∨ i=5 ∨ i=6 ∨ i=7 ∨ i=8 ∨ i=9 by omega) with rfl | rfl | rfl | rfl | rfl | rfl | rfl | rfl | rfl | rfl
    · cases ho;exact dr_val (by simp [execOp,Act.eval,b1,go_sem] <;> rfl) hinv rfl
    · cases ho;exact dr_val (by simp [execOp,Act.eval,D0 (by kernel_rfl),go_sem] <;> rfl) hinv rfl
    · cases ho;exact dr_val (dr_load 22 (.tmp 43) rfl _ (D1 (by kernel_rfl)) (box_u32 HX.out 8 _ rfl)) hinv rfl
    · cases ho;exact dr_bytes (by simp [execOp,Act.eval,D2 (by kernel_rfl),go_sem] <;> rfl) (low_any _ 4 (by decide) u) hinv
    · cases ho;obtain ⟨a3,c3,e3⟩:=(D3 (by kernel_rfl)).len;have h3:=D3 (by kernel_rfl);rw [e3] at h3;exact dr_bytes (by simp [execOp,Act.eval,e3,go_sem] <;> rfl) (plain_any _ _ (low_le _ _ (by decide)) _ u h3) hinv
    · cases ho;exact dr_val (by simp [execOp,Act.eval,b1,go_sem] <;> rfl) hinv rfl
    · cases ho;exact dr_val (dr_load 24 (.tmp 47) rfl _ (D5 (by kernel_rfl)) (box_a HX.out)) hinv rfl
    · cases ho;exact dr_bytes (by simp [execOp,Act.eval,D6 (by kernel_rfl),go_sem] <;> rfl) (placed_any _ _ _ ha.1 ha.2 _ (by decide) _ u (.inl ⟨rfl,rfl⟩)) hinv
    · cases ho;obtain ⟨a4,c4,e4⟩:=(D4 (by kernel_rfl)).len;obtain ⟨a7,c7,e7⟩:=(D7 (by kernel_rfl)).len;have h4:=D4 (by kernel_rfl);rw [e4] at h4;have h7:=D7 (by kernel_rfl);rw [e7] at h7;rw [Array.getD_eq_getD_getElem?] at e4 e7;exact dr_rows (T:=30) (vs:=[.slice a4 _ c4,.slice a7 _ c7]) (n:=2) (by exact ⟨h4,h7,trivial⟩) (by rfl) (by simp [execOp,Act.eval,e4,e7,go_sem] <;> rfl) hinv
    · cases ho;have h:=D8 (by kernel_rfl);obtain ⟨a,n,c,e⟩:=h.is;exact dr_val (by simp [execOp,Act.eval,e,go_sem] <;> rfl) hinv (by rw [e] at h;exact h)
  · intro f u hinv hV
    have q:BRows u (f 9) [spelledF (232) ++ (lowF x.a.disp 4),placedF (255) 2 x.a ([])]:=hV 9 (by decide)
    generalize hb:laid _ f _ _=b
    have b4:b.tmps.getD 2 undef=f 9:=by rw [← hb];kernel_rfl
    have bd:b.defers=[]:=by rw [← hb];kernel_rfl
    clear hb
    rw [Array.getD_eq_getD_getElem?] at b4
    obtain ⟨a,m,c,e⟩:=q.is
    rw [e] at q b4
    have HQ:=Lib.hid q
    have HI:=Lib.hid (below_first hinv)
    clear hV q e hinv
    go_wp2_with fail
    exact bodyPost_ret (v:=.slice a m c) (by simp [results,Tryz.results60,go_sem,b4]) bd ⟨_,rfl,HQ.out,HI.out⟩
set_option maxRecDepth 512
def tab_led_34 (x:Ins) (R:Nat):List Pm:=[.bytes (spelledF (195) ++ ([])),.val (.pointer (some ⟨R,3,none⟩)),.val (.pointer (some ⟨R,8,none⟩)),.val (.int .u32 (x.a.disp)),.bytes (lowF x.a.disp 2),.bytes (spelledF (194) ++ (lowF x.a.disp 2)),.rows [spelledF (195) ++ ([]),spelledF (194) ++ (lowF x.a.disp 2)],.rows [spelledF (195) ++ ([]),spelledF (194) ++ (lowF x.a.disp 2)]]
set_option maxRecDepth 100000
theorem led_34 (x:Ins) (ha:0 ≤ x.a.disp∧x.a.disp < 4294967296) (hb:0 ≤ x.b.disp∧x.b.disp < 4294967296) (hop:x.op=34) (w:World):Calls Tryz.prog 60 #[insV x] w (RowsR w ((ledC 34 x.cond x.size x.rep).map (fillF x))):=by
  have _:=ha;have _:=hb
  have hc0:(insC x)[0]?=some (.int .i64 34):=by rw [← hop];rfl
  clear hop
  unfold insV
  go_enter Tryz.func60,Tryz.ntmps60
  go_upto_region 9 with fail
  refine dr_region (tab_led_34 x w.heap.size) (by kernel_rfl) ?_ ?_
  · intro i o b u ho hinv hsz hbase hdep
    have hi:i < 8:=(Array.getElem?_eq_some_iff.1 ho).1
    have b1:b.tmps.getD 1 undef=(.pointer (some ⟨w.heap.size,0,none⟩)):=hbase 1 (by kernel_rfl)
    have HX:=Lib.hid (boxed x hinv)
    clear hbase hsz
    have D0:=tB b u 53 (spelledF (195) ++ ([])) (hdep 0)
    have D1:=tQ b w.heap.size 54 3 (hdep 1)
    have D2:=tQ b w.heap.size 55 8 (hdep 2)
    have D3:=tV b 56 (.int .u32 (x.a.disp)) (hdep 3)
    have D4:=tB b u 57 (lowF x.a.disp 2) (hdep 4)
    have D5:=tB b u 58 (spelledF (194) ++ (lowF x.a.disp 2)) (hdep 5)
    have D6:=tW b u 59 [spelledF (195) ++ ([]),spelledF (194) ++ (lowF x.a.disp 2)] (hdep 6)
    clear hdep
    rcases (show i=0 ∨ i=1 ∨ i=2 ∨ i=3 ∨ i=4 ∨ i=5 ∨ i=6 ∨ i=7 by omega) with rfl | rfl | rfl | rfl | rfl | rfl | rfl | rfl
    · cases ho;exact dr_bytes (by simp [execOp,Act.eval,go_sem] <;> rfl) (plain_any _ _ (by decide) _ u (.inl ⟨rfl,rfl⟩)) hinv
    · cases ho;exact dr_val (by simp [execOp,Act.eval,b1,go_sem] <;> rfl) hinv rfl
    · cases ho;exact dr_val (by simp [execOp,Act.eval,D1 (by kernel_rfl),go_sem] <;> rfl) hinv rfl
    · cases ho;exact dr_val (dr_load 22 (.tmp 55) rfl _ (D2 (by kernel_rfl)) (box_u32 HX.out 8 _ rfl)) hinv rfl
    · cases ho;exact dr_bytes (by simp [execOp,Act.eval,D3 (by kernel_rfl),go_sem] <;> rfl) (low_any _ 2 (by decide) u) hinv
    · cases ho;obtain ⟨a4,c4,e4⟩:=(D4 (by kernel_rfl)).len;have h4:=D4 (by kernel_rfl);rw [e4] at h4;exact dr_bytes (by simp [execOp,Act.eval,e4,go_sem] <;> rfl) (plain_any _ _ (low_le _ _ (by decide)) _ u h4) hinv
    · cases ho;obtain ⟨a0,c0,e0⟩:=(D0 (by kernel_rfl)).len;obtain ⟨a5,c5,e5⟩:=(D5 (by kernel_rfl)).len;have h0:=D0 (by kernel_rfl);rw [e0] at h0;have h5:=D5 (by kernel_rfl);rw [e5] at h5;rw [Array.getD_eq_getD_getElem?] at e0 e5;exact dr_rows (T:=30) (vs:=[.slice a0 _ c0,.slice a5 _ c5]) (n:=2) (by exact ⟨h0,h5,trivial⟩) (by rfl) (by simp [execOp,Act.eval,e0,e5,go_sem] <;> rfl) hinv
    · cases ho;have h:=D6 (by kernel_rfl);obtain ⟨a,n,c,e⟩:=h.is;exact dr_val (by simp [execOp,Act.eval,e,go_sem] <;> rfl) hinv (by rw [e] at h;exact h)
  · intro f u hinv hV
    have q:BRows u (f 7) [spelledF (195) ++ ([]),spelledF (194) ++ (lowF x.a.disp 2)]:=hV 7 (by decide)
    generalize hb:laid _ f _ _=b
    have b4:b.tmps.getD 2 undef=f 7:=by rw [← hb];kernel_rfl
    have bd:b.defers=[]:=by rw [← hb];kernel_rfl
    clear hb
    rw [Array.getD_eq_getD_getElem?] at b4
    obtain ⟨a,m,c,e⟩:=q.is
    rw [e] at q b4
    have HQ:=Lib.hid q
    have HI:=Lib.hid (below_first hinv)
    clear hV q e hinv
    go_wp2_with fail
    exact bodyPost_ret (v:=.slice a m c) (by simp [results,Tryz.results60,go_sem,b4]) bd ⟨_,rfl,HQ.out,HI.out⟩
set_option maxRecDepth 512
def tab_led_35 (x:Ins) (R:Nat):List Pm:=[.val (insV x),.val (.int .i64 (x.cond % 16)),.val (.int .i64 (3984+x.cond % 16)),.val (.pointer (some ⟨R,3,none⟩)),.val (opV x.a),.bytes (placedF (3984+x.cond % 16) 0 x.a ([])),.rows [placedF (3984+x.cond % 16) 0 x.a ([])],.rows [placedF (3984+x.cond % 16) 0 x.a ([])]]
set_option maxRecDepth 100000
theorem led_35 (x:Ins) (ha:0 ≤ x.a.disp∧x.a.disp < 4294967296) (hb:0 ≤ x.b.disp∧x.b.disp < 4294967296) (hop:x.op=35) (w:World):Calls Tryz.prog 60 #[insV x] w (RowsR w ((ledC 35 x.cond x.size x.rep).map (fillF x))):=by
  have _:=ha;have _:=hb
  have hc0:(insC x)[0]?=some (.int .i64 35):=by rw [← hop];rfl
  clear hop
  unfold insV
  go_enter Tryz.func60,Tryz.ntmps60
  go_upto_region 11 with fail
  refine dr_region (tab_led_35 x w.heap.size) (by kernel_rfl) ?_ ?_
  · intro i o b u ho hinv hsz hbase hdep
    have hi:i < 8:=(Array.getElem?_eq_some_iff.1 ho).1
    have b1:b.tmps.getD 1 undef=(.pointer (some ⟨w.heap.size,0,none⟩)):=hbase 1 (by kernel_rfl)
    have HX:=Lib.hid (boxed x hinv)
    clear hbase hsz
    have D0:=tV b 62 (insV x) (hdep 0)
    have D1:=tV b 63 (.int .i64 (x.cond % 16)) (hdep 1)
    have D2:=tV b 64 (.int .i64 (3984+x.cond % 16)) (hdep 2)
    have D3:=tQ b w.heap.size 65 3 (hdep 3)
    have D4:=tV b 66 (opV x.a) (hdep 4)
    have D5:=tB b u 67 (placedF (3984+x.cond % 16) 0 x.a ([])) (hdep 5)
    have D6:=tW b u 68 [placedF (3984+x.cond % 16) 0 x.a ([])] (hdep 6)
    clear hdep
    rcases (show i=0 ∨ i=1 ∨ i=2 ∨ i=3 ∨ i=4 ∨ i=5 ∨ i=6 ∨ i=7 by omega) with rfl | rfl | rfl | rfl | rfl | rfl | rfl | rfl
    · cases ho;exact dr_val (dr_load 26 (.tmp 1) rfl _ (b1) (box_ins HX.out)) hinv rfl
    · cases ho;refine wp_call (by simp [execOp,Act.eval,D0 (by kernel_rfl),go_sem] <;> rfl) ((condition_any _ u).mono ?_);rintro e u1 ⟨rfl,hb⟩;exact ⟨_,rfl,_,rfl,below_step hinv hb,hb,rfl⟩
    · cases ho;exact dr_val (by simp [execOp,Act.eval,D1 (by kernel_rfl),go_sem,or_c] <;> rfl) hinv rfl
    · cases ho;exact dr_val (by simp [execOp,Act.eval,b1,go_sem] <;> rfl) hinv rfl
    · cases ho;exact dr_val (dr_load 24 (.tmp 65) rfl _ (D3 (by kernel_rfl)) (box_a HX.out)) hinv rfl
    · cases ho;exact dr_bytes (by simp [execOp,Act.eval,D2 (by kernel_rfl),D4 (by kernel_rfl),go_sem] <;> rfl) (placed_any _ _ _ ha.1 ha.2 _ (by decide) _ u (.inl ⟨rfl,rfl⟩)) hinv
    · cases ho;obtain ⟨a5,c5,e5⟩:=(D5 (by kernel_rfl)).len;have h5:=D5 (by kernel_rfl);rw [e5] at h5;rw [Array.getD_eq_getD_getElem?] at e5;exact dr_rows (T:=30) (vs:=[.slice a5 _ c5]) (n:=1) (by exact ⟨h5,trivial⟩) (by rfl) (by simp [execOp,Act.eval,e5,go_sem] <;> rfl) hinv
    · cases ho;have h:=D6 (by kernel_rfl);obtain ⟨a,n,c,e⟩:=h.is;exact dr_val (by simp [execOp,Act.eval,e,go_sem] <;> rfl) hinv (by rw [e] at h;exact h)
  · intro f u hinv hV
    have q:BRows u (f 7) [placedF (3984+x.cond % 16) 0 x.a ([])]:=hV 7 (by decide)
    generalize hb:laid _ f _ _=b
    have b4:b.tmps.getD 2 undef=f 7:=by rw [← hb];kernel_rfl
    have bd:b.defers=[]:=by rw [← hb];kernel_rfl
    clear hb
    rw [Array.getD_eq_getD_getElem?] at b4
    obtain ⟨a,m,c,e⟩:=q.is
    rw [e] at q b4
    have HQ:=Lib.hid q
    have HI:=Lib.hid (below_first hinv)
    clear hV q e hinv
    go_wp2_with fail
    exact bodyPost_ret (v:=.slice a m c) (by simp [results,Tryz.results60,go_sem,b4]) bd ⟨_,rfl,HQ.out,HI.out⟩
end Go.Proofs.YtlnahkkemjgjbaaGreat
