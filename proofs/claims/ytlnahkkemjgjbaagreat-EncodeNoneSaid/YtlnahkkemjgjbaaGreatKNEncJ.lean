import Derived.Test.YtlnahkkemjgjbaaGreatKNC11
namespace Go.Proofs.YtlnahkkemjgjbaaGreat
open Go.ChangeShapes Go.WideShapes Go.ChangeAt Go.RowKit
def tab_spellings_9 (x:Ins) (R:Nat):List Pm:=[.val (.int .i64 (wF x.size)),.val (.int .i64 (132+wF x.size)),.val (.pointer (some ⟨R,9,none⟩)),.val (.pointer (some ⟨R,10,none⟩)),.val (.int .i64 (x.b.reg)),.val (.pointer (some ⟨R,3,none⟩)),.val (opV x.a),.bytes (placedF (132+wF x.size) x.b.reg x.a ([])),.val (.int .i64 (wF x.size)),.val (.int .i64 (168+wF x.size)),.val (insV x),.bytes (lowF x.b.disp (nF x.size)),.bytes (spelledF (168+wF x.size) ++ (lowF x.b.disp (nF x.size))),.val (.int .i64 (wF x.size)),.val (.int .i64 (246+wF x.size)),.val (.pointer (some ⟨R,3,none⟩)),.val (opV x.a),.val (insV x),.bytes (lowF x.b.disp (nF x.size)),.bytes (placedF (246+wF x.size) 0 x.a (lowF x.b.disp (nF x.size))),.rows [placedF (132+wF x.size) x.b.reg x.a ([]),spelledF (168+wF x.size) ++ (lowF x.b.disp (nF x.size)),placedF (246+wF x.size) 0 x.a (lowF x.b.disp (nF x.size))],.rows [placedF (132+wF x.size) x.b.reg x.a ([]),spelledF (168+wF x.size) ++ (lowF x.b.disp (nF x.size)),placedF (246+wF x.size) 0 x.a (lowF x.b.disp (nF x.size))]]
set_option maxRecDepth 100000
set_option maxHeartbeats 4000000
theorem spellings_9 (x:Ins) (ha:0 ≤ x.a.disp∧x.a.disp < 4294967296) (hb:0 ≤ x.b.disp∧x.b.disp < 4294967296) (hop:x.op=9) (w:World):Calls Tryz.prog 20 #[insV x] w (RowsR w ((candF 9 x.cond x.size x.rep).map (fillF x))):=by
  have _:=ha;have _:=hb
  have HW:=Lib.hid (wide_any x.size)
  have hc2:(insC x)[2]?=some (.int .i64 x.size):=rfl
  have hc0:(insC x)[0]?=some (.int .i64 9):=by rw [← hop];rfl
  clear hop
  unfold insV
  go_enter Tryz.func20,Tryz.ntmps20
  go_upto_region 13 with (go_at_call 35;(with_reducible refine (HW.out _).mono ?_);rintro e w' ⟨rfl,rfl⟩)
  refine dr_region (tab_spellings_9 x w.heap.size) (by kernel_rfl) ?_ ?_
  · intro i o b u ho hinv hsz hbase hdep
    have hi:i < 22:=(Array.getElem?_eq_some_iff.1 ho).1
    have b1:b.tmps.getD 1 undef=(.pointer (some ⟨w.heap.size,0,none⟩)):=hbase 1 (by kernel_rfl)
    have b3:b.tmps.getD 3 undef=(.int .i64 (wF x.size)):=hbase 3 (by kernel_rfl)
    have HX:=Lib.hid (boxed x hinv)
    clear hbase hsz
    have D0:=tV b 26 (.int .i64 (wF x.size)) (hdep 0)
    have D1:=tV b 27 (.int .i64 (132+wF x.size)) (hdep 1)
    have D2:=tQ b w.heap.size 28 9 (hdep 2)
    have D3:=tQ b w.heap.size 29 10 (hdep 3)
    have D4:=tV b 30 (.int .i64 (x.b.reg)) (hdep 4)
    have D5:=tQ b w.heap.size 31 3 (hdep 5)
    have D6:=tV b 32 (opV x.a) (hdep 6)
    have D7:=tB b u 33 (placedF (132+wF x.size) x.b.reg x.a ([])) (hdep 7)
    have D8:=tV b 34 (.int .i64 (wF x.size)) (hdep 8)
    have D9:=tV b 35 (.int .i64 (168+wF x.size)) (hdep 9)
    have D10:=tV b 36 (insV x) (hdep 10)
    have D11:=tB b u 37 (lowF x.b.disp (nF x.size)) (hdep 11)
    have D12:=tB b u 38 (spelledF (168+wF x.size) ++ (lowF x.b.disp (nF x.size))) (hdep 12)
    have D13:=tV b 39 (.int .i64 (wF x.size)) (hdep 13)
    have D14:=tV b 40 (.int .i64 (246+wF x.size)) (hdep 14)
    have D15:=tQ b w.heap.size 41 3 (hdep 15)
    have D16:=tV b 42 (opV x.a) (hdep 16)
    have D17:=tV b 43 (insV x) (hdep 17)
    have D18:=tB b u 44 (lowF x.b.disp (nF x.size)) (hdep 18)
    have D19:=tB b u 45 (placedF (246+wF x.size) 0 x.a (lowF x.b.disp (nF x.size))) (hdep 19)
    have D20:=tW b u 46 [placedF (132+wF x.size) x.b.reg x.a ([]),spelledF (168+wF x.size) ++ (lowF x.b.disp (nF x.size)),placedF (246+wF x.size) 0 x.a (lowF x.b.disp (nF x.size))] (hdep 20)
    clear hdep
    rcases (show i=0 ∨ i=1 ∨ i=2 ∨ i=3 ∨ i=4 ∨ i=5 ∨ i=6 ∨ i=7 ∨ i=8 ∨ i=9 ∨ i=10 ∨ i=11 ∨ i=12 ∨ i=13 ∨ i=14 ∨ i=15 ∨ i=16 ∨ i=17 ∨ i=18 ∨ i=19 ∨ i=20 ∨ i=21 by omega) with rfl | rfl | rfl | rfl | rfl | rfl | rfl | rfl | rfl | rfl | rfl | rfl | rfl | rfl | rfl | rfl | rfl | rfl | rfl | rfl | rfl | rfl
    · cases ho;exact dr_val (by simp [execOp,Act.eval,b3,go_sem] <;> rfl) hinv rfl
    · cases ho;exact dr_val (by simp [execOp,Act.eval,D0 (by kernel_rfl),go_sem,or_w] <;> rfl) hinv rfl
    · cases ho;exact dr_val (by simp [execOp,Act.eval,b1,go_sem] <;> rfl) hinv rfl
    · cases ho;exact dr_val (by simp [execOp,Act.eval,D2 (by kernel_rfl),go_sem] <;> rfl) hinv rfl
    · cases ho;exact dr_val (dr_load 3 (.tmp 29) rfl _ (D3 (by kernel_rfl)) (box_int HX.out 10 _ rfl)) hinv rfl
    · cases ho;exact dr_val (by simp [execOp,Act.eval,b1,go_sem] <;> rfl) hinv rfl
    · cases ho;exact dr_val (dr_load 24 (.tmp 31) rfl _ (D5 (by kernel_rfl)) (box_a HX.out)) hinv rfl
    · cases ho;exact dr_bytes (by simp [execOp,Act.eval,D1 (by kernel_rfl),D4 (by kernel_rfl),D6 (by kernel_rfl),go_sem] <;> rfl) (placed_any _ _ _ ha.1 ha.2 _ (by decide) _ u (.inl ⟨rfl,rfl⟩)) hinv
    · cases ho;exact dr_val (by simp [execOp,Act.eval,b3,go_sem] <;> rfl) hinv rfl
    · cases ho;exact dr_val (by simp [execOp,Act.eval,D8 (by kernel_rfl),go_sem,or_w] <;> rfl) hinv rfl
    · cases ho;exact dr_val (dr_load 26 (.tmp 1) rfl _ (b1) (box_ins HX.out)) hinv rfl
    · cases ho;exact dr_bytes (by simp [execOp,Act.eval,D10 (by kernel_rfl),go_sem] <;> rfl) (immediate_any x u) hinv
    · cases ho;obtain ⟨a11,c11,e11⟩:=(D11 (by kernel_rfl)).len;have h11:=D11 (by kernel_rfl);rw [e11] at h11;exact dr_bytes (by simp [execOp,Act.eval,D9 (by kernel_rfl),e11,go_sem] <;> rfl) (plain_any _ _ (low_le _ _ (nF_le _)) _ u h11) hinv
    · cases ho;exact dr_val (by simp [execOp,Act.eval,b3,go_sem] <;> rfl) hinv rfl
    · cases ho;exact dr_val (by simp [execOp,Act.eval,D13 (by kernel_rfl),go_sem,or_w] <;> rfl) hinv rfl
    · cases ho;exact dr_val (by simp [execOp,Act.eval,b1,go_sem] <;> rfl) hinv rfl
    · cases ho;exact dr_val (dr_load 24 (.tmp 41) rfl _ (D15 (by kernel_rfl)) (box_a HX.out)) hinv rfl
    · cases ho;exact dr_val (dr_load 26 (.tmp 1) rfl _ (b1) (box_ins HX.out)) hinv rfl
    · cases ho;exact dr_bytes (by simp [execOp,Act.eval,D17 (by kernel_rfl),go_sem] <;> rfl) (immediate_any x u) hinv
    · cases ho;obtain ⟨a18,c18,e18⟩:=(D18 (by kernel_rfl)).len;have h18:=D18 (by kernel_rfl);rw [e18] at h18;exact dr_bytes (by simp [execOp,Act.eval,D14 (by kernel_rfl),D16 (by kernel_rfl),e18,go_sem] <;> rfl) (placed_any _ _ _ ha.1 ha.2 _ (low_le _ _ (nF_le _)) _ u h18) hinv
    · cases ho;obtain ⟨a7,c7,e7⟩:=(D7 (by kernel_rfl)).len;obtain ⟨a12,c12,e12⟩:=(D12 (by kernel_rfl)).len;obtain ⟨a19,c19,e19⟩:=(D19 (by kernel_rfl)).len;have h7:=D7 (by kernel_rfl);rw [e7] at h7;have h12:=D12 (by kernel_rfl);rw [e12] at h12;have h19:=D19 (by kernel_rfl);rw [e19] at h19;rw [Array.getD_eq_getD_getElem?] at e7 e12 e19;exact dr_rows (T:=30) (vs:=[.slice a7 _ c7,.slice a12 _ c12,.slice a19 _ c19]) (n:=3) (by exact ⟨h7,h12,h19,trivial⟩) (by rfl) (by simp [execOp,Act.eval,e7,e12,e19,go_sem] <;> rfl) hinv
    · cases ho;have h:=D20 (by kernel_rfl);obtain ⟨a,n,c,e⟩:=h.is;exact dr_val (by simp [execOp,Act.eval,e,go_sem] <;> rfl) hinv (by rw [e] at h;exact h)
  · intro f u hinv hV
    have q:BRows u (f 21) [placedF (132+wF x.size) x.b.reg x.a ([]),spelledF (168+wF x.size) ++ (lowF x.b.disp (nF x.size)),placedF (246+wF x.size) 0 x.a (lowF x.b.disp (nF x.size))]:=hV 21 (by decide)
    generalize hb:laid _ f _ _=b
    have b4:b.tmps.getD 2 undef=f 21:=by rw [← hb];kernel_rfl
    have bd:b.defers=[]:=by rw [← hb];kernel_rfl
    clear hb
    rw [Array.getD_eq_getD_getElem?] at b4
    obtain ⟨a,m,c,e⟩:=q.is
    rw [e] at q b4
    have HQ:=Lib.hid q
    have HI:=Lib.hid (below_first hinv)
    clear hV q e hinv
    go_wp2_with fail
    exact bodyPost_ret (v:=.slice a m c) (by simp [results,Tryz.results20,go_sem,b4]) bd ⟨_,rfl,HQ.out,HI.out⟩
set_option maxRecDepth 512
def tab_spellings_16 (x:Ins) (R:Nat):List Pm:=[.val (.int .i64 (0)),.val (.int .i64 (0)),.val (.int .i64 (64)),.val (.pointer (some ⟨R,3,none⟩)),.val (opV x.a),.bytes (namedF (64) x.a ([])),.val (.int .i64 (wF x.size)),.val (.int .i64 (254+wF x.size)),.val (.int .i64 (0)),.val (.pointer (some ⟨R,3,none⟩)),.val (opV x.a),.bytes (placedF (254+wF x.size) 0 x.a ([])),.rows [namedF (64) x.a ([]),placedF (254+wF x.size) 0 x.a ([])],.rows [namedF (64) x.a ([]),placedF (254+wF x.size) 0 x.a ([])]]
set_option maxRecDepth 100000
theorem spellings_16 (x:Ins) (ha:0 ≤ x.a.disp∧x.a.disp < 4294967296) (hb:0 ≤ x.b.disp∧x.b.disp < 4294967296) (hop:x.op=16) (w:World):Calls Tryz.prog 20 #[insV x] w (RowsR w ((candF 16 x.cond x.size x.rep).map (fillF x))):=by
  have _:=ha;have _:=hb
  have HW:=Lib.hid (wide_any x.size)
  have hc2:(insC x)[2]?=some (.int .i64 x.size):=rfl
  have hc0:(insC x)[0]?=some (.int .i64 16):=by rw [← hop];rfl
  clear hop
  unfold insV
  go_enter Tryz.func20,Tryz.ntmps20
  go_upto_region 24 with (go_at_call 35;(with_reducible refine (HW.out _).mono ?_);rintro e w' ⟨rfl,rfl⟩)
  refine dr_region (tab_spellings_16 x w.heap.size) (by kernel_rfl) ?_ ?_
  · intro i o b u ho hinv hsz hbase hdep
    have hi:i < 14:=(Array.getElem?_eq_some_iff.1 ho).1
    have b1:b.tmps.getD 1 undef=(.pointer (some ⟨w.heap.size,0,none⟩)):=hbase 1 (by kernel_rfl)
    have b3:b.tmps.getD 3 undef=(.int .i64 (wF x.size)):=hbase 3 (by kernel_rfl)
    have b4:b.tmps.getD 4 undef=(.int .i64 (0)):=hbase 4 (by kernel_rfl)
    have HX:=Lib.hid (boxed x hinv)
    clear hbase hsz
    have D0:=tV b 70 (.int .i64 (0)) (hdep 0)
    have D1:=tV b 71 (.int .i64 (0)) (hdep 1)
    have D2:=tV b 72 (.int .i64 (64)) (hdep 2)
    have D3:=tQ b w.heap.size 73 3 (hdep 3)
    have D4:=tV b 74 (opV x.a) (hdep 4)
    have D5:=tB b u 75 (namedF (64) x.a ([])) (hdep 5)
    have D6:=tV b 76 (.int .i64 (wF x.size)) (hdep 6)
    have D7:=tV b 77 (.int .i64 (254+wF x.size)) (hdep 7)
    have D8:=tV b 78 (.int .i64 (0)) (hdep 8)
    have D9:=tQ b w.heap.size 79 3 (hdep 9)
    have D10:=tV b 80 (opV x.a) (hdep 10)
    have D11:=tB b u 81 (placedF (254+wF x.size) 0 x.a ([])) (hdep 11)
    have D12:=tW b u 82 [namedF (64) x.a ([]),placedF (254+wF x.size) 0 x.a ([])] (hdep 12)
    clear hdep
    rcases (show i=0 ∨ i=1 ∨ i=2 ∨ i=3 ∨ i=4 ∨ i=5 ∨ i=6 ∨ i=7 ∨ i=8 ∨ i=9 ∨ i=10 ∨ i=11 ∨ i=12 ∨ i=13 by omega) with rfl | rfl | rfl | rfl | rfl | rfl | rfl | rfl | rfl | rfl | rfl | rfl | rfl | rfl
    · cases ho;exact dr_val (by simp [execOp,Act.eval,b4,go_sem] <;> rfl) hinv rfl
    · cases ho;exact dr_val (by simp [execOp,Act.eval,D0 (by kernel_rfl),go_sem] <;> rfl) hinv rfl
    · cases ho;exact dr_val (by simp [execOp,Act.eval,D1 (by kernel_rfl),go_sem] <;> rfl) hinv rfl
    · cases ho;exact dr_val (by simp [execOp,Act.eval,b1,go_sem] <;> rfl) hinv rfl
    · cases ho;exact dr_val (dr_load 24 (.tmp 73) rfl _ (D3 (by kernel_rfl)) (box_a HX.out)) hinv rfl
    · cases ho;exact dr_bytes (by simp [execOp,Act.eval,D2 (by kernel_rfl),D4 (by kernel_rfl),go_sem] <;> rfl) (named_any _ _ _ (by decide) (by decide) (by decide) (by decide) _ u (.inl ⟨rfl,rfl⟩)) hinv
    · cases ho;exact dr_val (by simp [execOp,Act.eval,b3,go_sem] <;> rfl) hinv rfl
    · cases ho;exact dr_val (by simp [execOp,Act.eval,D6 (by kernel_rfl),go_sem,or_w] <;> rfl) hinv rfl
    · cases ho;exact dr_val (by simp [execOp,Act.eval,b4,go_sem] <;> rfl) hinv rfl
    · cases ho;exact dr_val (by simp [execOp,Act.eval,b1,go_sem] <;> rfl) hinv rfl
    · cases ho;exact dr_val (dr_load 24 (.tmp 79) rfl _ (D9 (by kernel_rfl)) (box_a HX.out)) hinv rfl
    · cases ho;exact dr_bytes (by simp [execOp,Act.eval,D7 (by kernel_rfl),D8 (by kernel_rfl),D10 (by kernel_rfl),go_sem] <;> rfl) (placed_any _ _ _ ha.1 ha.2 _ (by decide) _ u (.inl ⟨rfl,rfl⟩)) hinv
    · cases ho;obtain ⟨a5,c5,e5⟩:=(D5 (by kernel_rfl)).len;obtain ⟨a11,c11,e11⟩:=(D11 (by kernel_rfl)).len;have h5:=D5 (by kernel_rfl);rw [e5] at h5;have h11:=D11 (by kernel_rfl);rw [e11] at h11;rw [Array.getD_eq_getD_getElem?] at e5 e11;exact dr_rows (T:=30) (vs:=[.slice a5 _ c5,.slice a11 _ c11]) (n:=2) (by exact ⟨h5,h11,trivial⟩) (by rfl) (by simp [execOp,Act.eval,e5,e11,go_sem] <;> rfl) hinv
    · cases ho;have h:=D12 (by kernel_rfl);obtain ⟨a,n,c,e⟩:=h.is;exact dr_val (by simp [execOp,Act.eval,e,go_sem] <;> rfl) hinv (by rw [e] at h;exact h)
  · intro f u hinv hV
    have q:BRows u (f 13) [namedF (64) x.a ([]),placedF (254+wF x.size) 0 x.a ([])]:=hV 13 (by decide)
    generalize hb:laid _ f _ _=b
    have b4:b.tmps.getD 2 undef=f 13:=by rw [← hb];kernel_rfl
    have bd:b.defers=[]:=by rw [← hb];kernel_rfl
    clear hb
    rw [Array.getD_eq_getD_getElem?] at b4
    obtain ⟨a,m,c,e⟩:=q.is
    rw [e] at q b4
    have HQ:=Lib.hid q
    have HI:=Lib.hid (below_first hinv)
    clear hV q e hinv
    go_wp2_with fail
    exact bodyPost_ret (v:=.slice a m c) (by simp [results,Tryz.results20,go_sem,b4]) bd ⟨_,rfl,HQ.out,HI.out⟩
set_option maxRecDepth 512
def tab_spellings_17 (x:Ins) (R:Nat):List Pm:=[.val (.int .i64 (1)),.val (.int .i64 (8)),.val (.int .i64 (72)),.val (.pointer (some ⟨R,3,none⟩)),.val (opV x.a),.bytes (namedF (72) x.a ([])),.val (.int .i64 (wF x.size)),.val (.int .i64 (254+wF x.size)),.val (.int .i64 (1)),.val (.pointer (some ⟨R,3,none⟩)),.val (opV x.a),.bytes (placedF (254+wF x.size) 1 x.a ([])),.rows [namedF (72) x.a ([]),placedF (254+wF x.size) 1 x.a ([])],.rows [namedF (72) x.a ([]),placedF (254+wF x.size) 1 x.a ([])]]
set_option maxRecDepth 100000
theorem spellings_17 (x:Ins) (ha:0 ≤ x.a.disp∧x.a.disp < 4294967296) (hb:0 ≤ x.b.disp∧x.b.disp < 4294967296) (hop:x.op=17) (w:World):Calls Tryz.prog 20 #[insV x] w (RowsR w ((candF 17 x.cond x.size x.rep).map (fillF x))):=by
  have _:=ha;have _:=hb
  have HW:=Lib.hid (wide_any x.size)
  have hc2:(insC x)[2]?=some (.int .i64 x.size):=rfl
  have hc0:(insC x)[0]?=some (.int .i64 17):=by rw [← hop];rfl
  clear hop
  unfold insV
  go_enter Tryz.func20,Tryz.ntmps20
  go_upto_region 24 with (go_at_call 35;(with_reducible refine (HW.out _).mono ?_);rintro e w' ⟨rfl,rfl⟩)
  refine dr_region (tab_spellings_17 x w.heap.size) (by kernel_rfl) ?_ ?_
  · intro i o b u ho hinv hsz hbase hdep
    have hi:i < 14:=(Array.getElem?_eq_some_iff.1 ho).1
    have b1:b.tmps.getD 1 undef=(.pointer (some ⟨w.heap.size,0,none⟩)):=hbase 1 (by kernel_rfl)
    have b3:b.tmps.getD 3 undef=(.int .i64 (wF x.size)):=hbase 3 (by kernel_rfl)
    have b4:b.tmps.getD 4 undef=(.int .i64 (1)):=hbase 4 (by kernel_rfl)
    have HX:=Lib.hid (boxed x hinv)
    clear hbase hsz
    have D0:=tV b 70 (.int .i64 (1)) (hdep 0)
    have D1:=tV b 71 (.int .i64 (8)) (hdep 1)
    have D2:=tV b 72 (.int .i64 (72)) (hdep 2)
    have D3:=tQ b w.heap.size 73 3 (hdep 3)
    have D4:=tV b 74 (opV x.a) (hdep 4)
    have D5:=tB b u 75 (namedF (72) x.a ([])) (hdep 5)
    have D6:=tV b 76 (.int .i64 (wF x.size)) (hdep 6)
    have D7:=tV b 77 (.int .i64 (254+wF x.size)) (hdep 7)
    have D8:=tV b 78 (.int .i64 (1)) (hdep 8)
    have D9:=tQ b w.heap.size 79 3 (hdep 9)
    have D10:=tV b 80 (opV x.a) (hdep 10)
    have D11:=tB b u 81 (placedF (254+wF x.size) 1 x.a ([])) (hdep 11)
    have D12:=tW b u 82 [namedF (72) x.a ([]),placedF (254+wF x.size) 1 x.a ([])] (hdep 12)
    clear hdep
    rcases (show i=0 ∨ i=1 ∨ i=2 ∨ i=3 ∨ i=4 ∨ i=5 ∨ i=6 ∨ i=7 ∨ i=8 ∨ i=9 ∨ i=10 ∨ i=11 ∨ i=12 ∨ i=13 by omega) with rfl | rfl | rfl | rfl | rfl | rfl | rfl | rfl | rfl | rfl | rfl | rfl | rfl | rfl
    · cases ho;exact dr_val (by simp [execOp,Act.eval,b4,go_sem] <;> rfl) hinv rfl
    · cases ho;exact dr_val (by simp [execOp,Act.eval,D0 (by kernel_rfl),go_sem] <;> rfl) hinv rfl
    · cases ho;exact dr_val (by simp [execOp,Act.eval,D1 (by kernel_rfl),go_sem] <;> rfl) hinv rfl
    · cases ho;exact dr_val (by simp [execOp,Act.eval,b1,go_sem] <;> rfl) hinv rfl
    · cases ho;exact dr_val (dr_load 24 (.tmp 73) rfl _ (D3 (by kernel_rfl)) (box_a HX.out)) hinv rfl
    · cases ho;exact dr_bytes (by simp [execOp,Act.eval,D2 (by kernel_rfl),D4 (by kernel_rfl),go_sem] <;> rfl) (named_any _ _ _ (by decide) (by decide) (by decide) (by decide) _ u (.inl ⟨rfl,rfl⟩)) hinv
    · cases ho;exact dr_val (by simp [execOp,Act.eval,b3,go_sem] <;> rfl) hinv rfl
    · cases ho;exact dr_val (by simp [execOp,Act.eval,D6 (by kernel_rfl),go_sem,or_w] <;> rfl) hinv rfl
    · cases ho;exact dr_val (by simp [execOp,Act.eval,b4,go_sem] <;> rfl) hinv rfl
    · cases ho;exact dr_val (by simp [execOp,Act.eval,b1,go_sem] <;> rfl) hinv rfl
    · cases ho;exact dr_val (dr_load 24 (.tmp 79) rfl _ (D9 (by kernel_rfl)) (box_a HX.out)) hinv rfl
    · cases ho;exact dr_bytes (by simp [execOp,Act.eval,D7 (by kernel_rfl),D8 (by kernel_rfl),D10 (by kernel_rfl),go_sem] <;> rfl) (placed_any _ _ _ ha.1 ha.2 _ (by decide) _ u (.inl ⟨rfl,rfl⟩)) hinv
    · cases ho;obtain ⟨a5,c5,e5⟩:=(D5 (by kernel_rfl)).len;obtain ⟨a11,c11,e11⟩:=(D11 (by kernel_rfl)).len;have h5:=D5 (by kernel_rfl);rw [e5] at h5;have h11:=D11 (by kernel_rfl);rw [e11] at h11;rw [Array.getD_eq_getD_getElem?] at e5 e11;exact dr_rows (T:=30) (vs:=[.slice a5 _ c5,.slice a11 _ c11]) (n:=2) (by exact ⟨h5,h11,trivial⟩) (by rfl) (by simp [execOp,Act.eval,e5,e11,go_sem] <;> rfl) hinv
    · cases ho;have h:=D12 (by kernel_rfl);obtain ⟨a,n,c,e⟩:=h.is;exact dr_val (by simp [execOp,Act.eval,e,go_sem] <;> rfl) hinv (by rw [e] at h;exact h)
  · intro f u hinv hV
    have q:BRows u (f 13) [namedF (72) x.a ([]),placedF (254+wF x.size) 1 x.a ([])]:=hV 13 (by decide)
    generalize hb:laid _ f _ _=b
    have b4:b.tmps.getD 2 undef=f 13:=by rw [← hb];kernel_rfl
    have bd:b.defers=[]:=by rw [← hb];kernel_rfl
    clear hb
    rw [Array.getD_eq_getD_getElem?] at b4
    obtain ⟨a,m,c,e⟩:=q.is
    rw [e] at q b4
    have HQ:=Lib.hid q
    have HI:=Lib.hid (below_first hinv)
    clear hV q e hinv
    go_wp2_with fail
    exact bodyPost_ret (v:=.slice a m c) (by simp [results,Tryz.results20,go_sem,b4]) bd ⟨_,rfl,HQ.out,HI.out⟩
end Go.Proofs.YtlnahkkemjgjbaaGreat
