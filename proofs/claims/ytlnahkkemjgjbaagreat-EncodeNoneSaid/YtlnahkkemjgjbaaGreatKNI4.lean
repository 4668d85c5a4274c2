import Derived.Test.YtlnahkkemjgjbaaGreatKNI
namespace Go.Proofs.YtlnahkkemjgjbaaGreat
open Go.ChangeShapes Go.WideShapes Go.ChangeAt Go.RowKit
section
attribute [local go_sem] isSome_setCell
set_option maxRecDepth 100000
set_option maxHeartbeats 1000000
theorem dsingle_none (c:Int) (h0:0 ≤ c) (h1:c < 256) (n104:c ≠ 104) (n105:c ≠ 105) (n106:c ≠ 106) (n107:c ≠ 107) (n132:c ≠ 132) (n133:c ≠ 133) (n134:c ≠ 134) (n135:c ≠ 135) (n136:c ≠ 136) (n137:c ≠ 137) (n138:c ≠ 138) (n139:c ≠ 139) (n141:c ≠ 141) (n145:c ≠ 145) (n146:c ≠ 146) (n147:c ≠ 147) (n148:c ≠ 148) (n149:c ≠ 149) (n150:c ≠ 150) (n151:c ≠ 151) (n160:c ≠ 160) (n161:c ≠ 161) (n162:c ≠ 162) (n163:c ≠ 163) (n168:c ≠ 168) (n169:c ≠ 169) (n194:c ≠ 194) (n232:c ≠ 232) (n233:c ≠ 233) (n235:c ≠ 235) (w:World):Calls Tryz.prog 79 #[.int .i64 c] w fun e w'=>e=.returned (lfV (bareL c))∧Below w.heap.size w w':=by
  have e104:(c == 104)=false:=by simpa using n104
  have e105:(c == 105)=false:=by simpa using n105
  have e106:(c == 106)=false:=by simpa using n106
  have e107:(c == 107)=false:=by simpa using n107
  have e132:(c == 132)=false:=by simpa using n132
  have e133:(c == 133)=false:=by simpa using n133
  have e134:(c == 134)=false:=by simpa using n134
  have e135:(c == 135)=false:=by simpa using n135
  have e136:(c == 136)=false:=by simpa using n136
  have e137:(c == 137)=false:=by simpa using n137
  have e138:(c == 138)=false:=by simpa using n138
  have e139:(c == 139)=false:=by simpa using n139
  have e141:(c == 141)=false:=by simpa using n141
  have e145:(c == 145)=false:=by simpa using n145
  have e146:(c == 146)=false:=by simpa using n146
  have e147:(c == 147)=false:=by simpa using n147
  have e148:(c == 148)=false:=by simpa using n148
  have e149:(c == 149)=false:=by simpa using n149
  have e150:(c == 150)=false:=by simpa using n150
  have e151:(c == 151)=false:=by simpa using n151
  have e160:(c == 160)=false:=by simpa using n160
  have e161:(c == 161)=false:=by simpa using n161
  have e162:(c == 162)=false:=by simpa using n162
  have e163:(c == 163)=false:=by simpa using n163
  have e168:(c == 168)=false:=by simpa using n168
  have e169:(c == 169)=false:=by simpa using n169
  have e194:(c == 194)=false:=by simpa using n194
  have e232:(c == 232)=false:=by simpa using n232
  have e233:(c == 233)=false:=by simpa using n233
  have e235:(c == 235)=false:=by simpa using n235
  clear n104 n105 n106 n107 n132 n133 n134 n135 n136 n137 n138 n139 n141 n145 n146 n147 n148 n149 n150 n151 n160 n161 n162 n163 n168 n169 n194 n232 n233 n235
  have HB:=Lib.hid (dbare_any c)
  go_enter Tryz.func79,Tryz.ntmps79
  go_wp2_with fail
  refine (dwidth_any c h0 h1 _).mono ?_
  rintro e w1 ⟨rfl,rfl⟩
  go_wp2_with fail
  refine (HB.out _).mono ?_
  rintro e w2 ⟨rfl,hb2⟩
  have HT:=Lib.hid (there_last (n:=7) hb2 (by decide))
  have HB2:=Lib.hid (below_first hb2)
  clear hb2
  go_wp2_with (refine store_lf rfl (.tmp 2) (.tmp 79) rfl w.heap.size rfl (bareL c) rfl HT.out ?_;intro Y hY hl;have HY:=Lib.hid hY;have HL:=Lib.hid hl;clear hY hl)
  refine bodyPost_ret (results_cell rfl rfl HL.out) rfl ⟨rfl,?_⟩
  rw [HY.out]
  exact below_setCells (Nat.le_refl _) _ _ _ HB2.out
set_option maxRecDepth 512
theorem dsingle_any (c:Int) (h0:0 ≤ c) (h1:c < 256) (w:World):Calls Tryz.prog 79 #[.int .i64 c] w fun e w'=>e=.returned (lfV (singleL c))∧Below w.heap.size w w':=by
  by_cases n104:c=104
  · subst n104;exact dsingle_104 w
  by_cases n105:c=105
  · subst n105;exact dsingle_105 w
  by_cases n106:c=106
  · subst n106;exact dsingle_106 w
  by_cases n107:c=107
  · subst n107;exact dsingle_107 w
  by_cases n132:c=132
  · subst n132;exact dsingle_132 w
  by_cases n133:c=133
  · subst n133;exact dsingle_133 w
  by_cases n134:c=134
  · subst n134;exact dsingle_134 w
  by_cases n135:c=135
  · subst n135;exact dsingle_135 w
  by_cases n136:c=136
  · subst n136;exact dsingle_136 w
  by_cases n137:c=137
  · subst n137;exact dsingle_137 w
  by_cases n138:c=138
  · subst n138;exact dsingle_138 w
  by_cases n139:c=139
  · subst n139;exact dsingle_139 w
  by_cases n141:c=141
  · subst n141;exact dsingle_141 w
  by_cases n145:c=145
  · subst n145;exact dsingle_145 w
  by_cases n146:c=146
  · subst n146;exact dsingle_146 w
  by_cases n147:c=147
  · subst n147;exact dsingle_147 w
  by_cases n148:c=148
  · subst n148;exact dsingle_148 w
  by_cases n149:c=149
  · subst n149;exact dsingle_149 w
  by_cases n150:c=150
  · subst n150;exact dsingle_150 w
  by_cases n151:c=151
  · subst n151;exact dsingle_151 w
  by_cases n160:c=160
  · subst n160;exact dsingle_160 w
  by_cases n161:c=161
  · subst n161;exact dsingle_161 w
  by_cases n162:c=162
  · subst n162;exact dsingle_162 w
  by_cases n163:c=163
  · subst n163;exact dsingle_163 w
  by_cases n168:c=168
  · subst n168;exact dsingle_168 w
  by_cases n169:c=169
  · subst n169;exact dsingle_169 w
  by_cases n194:c=194
  · subst n194;exact dsingle_194 w
  by_cases n232:c=232
  · subst n232;exact dsingle_232 w
  by_cases n233:c=233
  · subst n233;exact dsingle_233 w
  by_cases n235:c=235
  · subst n235;exact dsingle_235 w
  rw [show singleL c=bareL c by unfold singleL;simp [n104,n105,n106,n107,n132,n133,n134,n135,n136,n137,n138,n139,n141,n160,n161,n162,n163,n168,n169,n194,n232,n233,n235];omega]
  exact dsingle_none c h0 h1 n104 n105 n106 n107 n132 n133 n134 n135 n136 n137 n138 n139 n141 n145 n146 n147 n148 n149 n150 n151 n160 n161 n162 n163 n168 n169 n194 n232 n233 n235 w
set_option maxRecDepth 100000
theorem dreck_0 (c:Int) (h0:0 ≤ c) (h1:c < 64) (hq:c % 8=0) (w:World):Calls Tryz.prog 77 #[.int .i64 c] w fun e w'=>e=.returned (lfV ⟨1+c / 8,0,wdL c,some .place,some .register,none,false⟩)∧Below w.heap.size w w':=by
  have a7:bits .and .i64 c 7=c % 8:=and_low_i c 3 h0 (by omega) (by decide)
  rw [hq] at a7
  clear hq
  go_enter Tryz.func77,Tryz.ntmps77
  go_wp2_with (go_at_call 73;(with_reducible refine (dwidth_any _ (by first | decide | omega) (by first | decide | omega) _).mono ?_);rintro e w' ⟨rfl,rfl⟩)
  go_returns
  exact ⟨rfl,BC.h⟩
theorem dreck_1 (c:Int) (h0:0 ≤ c) (h1:c < 64) (hq:c % 8=1) (w:World):Calls Tryz.prog 77 #[.int .i64 c] w fun e w'=>e=.returned (lfV ⟨1+c / 8,0,wdL c,some .place,some .register,none,false⟩)∧Below w.heap.size w w':=by
  have a7:bits .and .i64 c 7=c % 8:=and_low_i c 3 h0 (by omega) (by decide)
  rw [hq] at a7
  clear hq
  go_enter Tryz.func77,Tryz.ntmps77
  go_wp2_with (go_at_call 73;(with_reducible refine (dwidth_any _ (by first | decide | omega) (by first | decide | omega) _).mono ?_);rintro e w' ⟨rfl,rfl⟩)
  go_returns
  exact ⟨rfl,BC.h⟩
theorem dreck_2 (c:Int) (h0:0 ≤ c) (h1:c < 64) (hq:c % 8=2) (w:World):Calls Tryz.prog 77 #[.int .i64 c] w fun e w'=>e=.returned (lfV ⟨1+c / 8,0,wdL c,some .register,some .place,none,false⟩)∧Below w.heap.size w w':=by
  have a7:bits .and .i64 c 7=c % 8:=and_low_i c 3 h0 (by omega) (by decide)
  rw [hq] at a7
  clear hq
  go_enter Tryz.func77,Tryz.ntmps77
  go_wp2_with (go_at_call 73;(with_reducible refine (dwidth_any _ (by first | decide | omega) (by first | decide | omega) _).mono ?_);rintro e w' ⟨rfl,rfl⟩)
  go_returns
  exact ⟨rfl,BC.h⟩
theorem dreck_3 (c:Int) (h0:0 ≤ c) (h1:c < 64) (hq:c % 8=3) (w:World):Calls Tryz.prog 77 #[.int .i64 c] w fun e w'=>e=.returned (lfV ⟨1+c / 8,0,wdL c,some .register,some .place,none,false⟩)∧Below w.heap.size w w':=by
  have a7:bits .and .i64 c 7=c % 8:=and_low_i c 3 h0 (by omega) (by decide)
  rw [hq] at a7
  clear hq
  go_enter Tryz.func77,Tryz.ntmps77
  go_wp2_with (go_at_call 73;(with_reducible refine (dwidth_any _ (by first | decide | omega) (by first | decide | omega) _).mono ?_);rintro e w' ⟨rfl,rfl⟩)
  go_returns
  exact ⟨rfl,BC.h⟩
theorem dreck_4 (c:Int) (h0:0 ≤ c) (h1:c < 64) (hq:c % 8=4) (w:World):Calls Tryz.prog 77 #[.int .i64 c] w fun e w'=>e=.returned (lfV ⟨1+c / 8,0,wdL c,some .first,some .number,none,false⟩)∧Below w.heap.size w w':=by
  have a7:bits .and .i64 c 7=c % 8:=and_low_i c 3 h0 (by omega) (by decide)
  rw [hq] at a7
  clear hq
  go_enter Tryz.func77,Tryz.ntmps77
  go_wp2_with (go_at_call 73;(with_reducible refine (dwidth_any _ (by first | decide | omega) (by first | decide | omega) _).mono ?_);rintro e w' ⟨rfl,rfl⟩)
  go_returns
  exact ⟨rfl,BC.h⟩
theorem dreck_5 (c:Int) (h0:0 ≤ c) (h1:c < 64) (hq:c % 8=5) (w:World):Calls Tryz.prog 77 #[.int .i64 c] w fun e w'=>e=.returned (lfV ⟨1+c / 8,0,wdL c,some .first,some .number,none,false⟩)∧Below w.heap.size w w':=by
  have a7:bits .and .i64 c 7=c % 8:=and_low_i c 3 h0 (by omega) (by decide)
  rw [hq] at a7
  clear hq
  go_enter Tryz.func77,Tryz.ntmps77
  go_wp2_with (go_at_call 73;(with_reducible refine (dwidth_any _ (by first | decide | omega) (by first | decide | omega) _).mono ?_);rintro e w' ⟨rfl,rfl⟩)
  go_returns
  exact ⟨rfl,BC.h⟩
theorem dreck_6 (c:Int) (h0:0 ≤ c) (h1:c < 64) (hq:c % 8=6) (w:World):Calls Tryz.prog 77 #[.int .i64 c] w fun e w'=>e=.returned (lfV nilL)∧Below w.heap.size w w':=by
  have a7:bits .and .i64 c 7=c % 8:=and_low_i c 3 h0 (by omega) (by decide)
  rw [hq] at a7
  clear hq
  go_enter Tryz.func77,Tryz.ntmps77
  go_wp2_with (go_at_call 73;(with_reducible refine (dwidth_any _ (by first | decide | omega) (by first | decide | omega) _).mono ?_);rintro e w' ⟨rfl,rfl⟩)
  go_returns
  exact ⟨rfl,BC.h⟩
theorem dreck_7 (c:Int) (h0:0 ≤ c) (h1:c < 64) (hq:c % 8=7) (w:World):Calls Tryz.prog 77 #[.int .i64 c] w fun e w'=>e=.returned (lfV nilL)∧Below w.heap.size w w':=by
  have a7:bits .and .i64 c 7=c % 8:=and_low_i c 3 h0 (by omega) (by decide)
  rw [hq] at a7
  clear hq
  go_enter Tryz.func77,Tryz.ntmps77
  go_wp2_with (go_at_call 73;(with_reducible refine (dwidth_any _ (by first | decide | omega) (by first | decide | omega) _).mono ?_);rintro e w' ⟨rfl,rfl⟩)
  go_returns
  exact ⟨rfl,BC.h⟩
set_option maxRecDepth 512
theorem dreck_any (c:Int) (h0:0 ≤ c) (h1:c < 64) (w:World):Calls Tryz.prog 77 #[.int .i64 c] w fun e w'=>e=.returned (lfV (reckL c))∧Below w.heap.size w w':=by
  have h8:c % 8=0 ∨ c % 8=1 ∨ c % 8=2 ∨ c % 8=3 ∨ c % 8=4 ∨ c % 8=5 ∨ c % 8=6 ∨ c % 8=7:=by omega
  rcases h8 with h | h | h | h | h | h | h | h
  · have:=dreck_0 c h0 h1 h w
    unfold reckL
    rw [h]
    exact this
  · have:=dreck_1 c h0 h1 h w
    unfold reckL
    rw [h]
    exact this
  · have:=dreck_2 c h0 h1 h w
    unfold reckL
    rw [h]
    exact this
  · have:=dreck_3 c h0 h1 h w
    unfold reckL
    rw [h]
    exact this
  · have:=dreck_4 c h0 h1 h w
    unfold reckL
    rw [h]
    exact this
  · have:=dreck_5 c h0 h1 h w
    unfold reckL
    rw [h]
    exact this
  · have:=dreck_6 c h0 h1 h w
    unfold reckL
    rw [h]
    exact this
  · have:=dreck_7 c h0 h1 h w
    unfold reckL
    rw [h]
    exact this
set_option maxRecDepth 100000
theorem doct_0 (c:Int) (h0:0 ≤ c) (_:c < 256) (hq:c / 8=0) (w:World):Calls Tryz.prog 53 #[.int .i64 c] w fun e w'=>e=.returned (lfV (reckL c))∧Below w.heap.size w w':=by
  have HR:=Lib.hid (dreck_any c h0 (by omega))
  go_enter Tryz.func53,Tryz.ntmps53
  go_wp2_with fail
  refine (HR.out _).mono ?_
  rintro e w2 ⟨rfl,hb2⟩
  have HT:=Lib.hid (there_last (n:=7) hb2 (by decide))
  have HB2:=Lib.hid (below_first hb2)
  clear hb2
  go_wp2_with (refine store_lf rfl (.tmp 2) (.tmp 15) rfl w.heap.size rfl (reckL c) rfl HT.out ?_;intro Y hY hl;have HY:=Lib.hid hY;have HL:=Lib.hid hl;clear hY hl)
  refine bodyPost_ret (results_cell rfl rfl HL.out) rfl ⟨rfl,?_⟩
  rw [HY.out]
  exact below_setCells (Nat.le_refl _) _ _ _ HB2.out
theorem doct_1 (c:Int) (h0:0 ≤ c) (_:c < 256) (hq:c / 8=1) (w:World):Calls Tryz.prog 53 #[.int .i64 c] w fun e w'=>e=.returned (lfV (reckL c))∧Below w.heap.size w w':=by
  have HR:=Lib.hid (dreck_any c h0 (by omega))
  go_enter Tryz.func53,Tryz.ntmps53
  go_wp2_with fail
  refine (HR.out _).mono ?_
  rintro e w2 ⟨rfl,hb2⟩
  have HT:=Lib.hid (there_last (n:=7) hb2 (by decide))
  have HB2:=Lib.hid (below_first hb2)
  clear hb2
  go_wp2_with (refine store_lf rfl (.tmp 2) (.tmp 15) rfl w.heap.size rfl (reckL c) rfl HT.out ?_;intro Y hY hl;have HY:=Lib.hid hY;have HL:=Lib.hid hl;clear hY hl)
  refine bodyPost_ret (results_cell rfl rfl HL.out) rfl ⟨rfl,?_⟩
  rw [HY.out]
  exact below_setCells (Nat.le_refl _) _ _ _ HB2.out
theorem doct_2 (c:Int) (h0:0 ≤ c) (_:c < 256) (hq:c / 8=2) (w:World):Calls Tryz.prog 53 #[.int .i64 c] w fun e w'=>e=.returned (lfV (reckL c))∧Below w.heap.size w w':=by
  have HR:=Lib.hid (dreck_any c h0 (by omega))
  go_enter Tryz.func53,Tryz.ntmps53
  go_wp2_with fail
  refine (HR.out _).mono ?_
  rintro e w2 ⟨rfl,hb2⟩
  have HT:=Lib.hid (there_last (n:=7) hb2 (by decide))
  have HB2:=Lib.hid (below_first hb2)
  clear hb2
  go_wp2_with (refine store_lf rfl (.tmp 2) (.tmp 15) rfl w.heap.size rfl (reckL c) rfl HT.out ?_;intro Y hY hl;have HY:=Lib.hid hY;have HL:=Lib.hid hl;clear hY hl)
  refine bodyPost_ret (results_cell rfl rfl HL.out) rfl ⟨rfl,?_⟩
  rw [HY.out]
  exact below_setCells (Nat.le_refl _) _ _ _ HB2.out
theorem doct_3 (c:Int) (h0:0 ≤ c) (_:c < 256) (hq:c / 8=3) (w:World):Calls Tryz.prog 53 #[.int .i64 c] w fun e w'=>e=.returned (lfV (reckL c))∧Below w.heap.size w w':=by
  have HR:=Lib.hid (dreck_any c h0 (by omega))
  go_enter Tryz.func53,Tryz.ntmps53
  go_wp2_with fail
  refine (HR.out _).mono ?_
  rintro e w2 ⟨rfl,hb2⟩
  have HT:=Lib.hid (there_last (n:=7) hb2 (by decide))
  have HB2:=Lib.hid (below_first hb2)
  clear hb2
  go_wp2_with (refine store_lf rfl (.tmp 2) (.tmp 15) rfl w.heap.size rfl (reckL c) rfl HT.out ?_;intro Y hY hl;have HY:=Lib.hid hY;have HL:=Lib.hid hl;clear hY hl)
  refine bodyPost_ret (results_cell rfl rfl HL.out) rfl ⟨rfl,?_⟩
  rw [HY.out]
  exact below_setCells (Nat.le_refl _) _ _ _ HB2.out
theorem doct_4 (c:Int) (h0:0 ≤ c) (_:c < 256) (hq:c / 8=4) (w:World):Calls Tryz.prog 53 #[.int .i64 c] w fun e w'=>e=.returned (lfV (reckL c))∧Below w.heap.size w w':=by
  have HR:=Lib.hid (dreck_any c h0 (by omega))
  go_enter Tryz.func53,Tryz.ntmps53
  go_wp2_with fail
  refine (HR.out _).mono ?_
  rintro e w2 ⟨rfl,hb2⟩
  have HT:=Lib.hid (there_last (n:=7) hb2 (by decide))
  have HB2:=Lib.hid (below_first hb2)
  clear hb2
  go_wp2_with (refine store_lf rfl (.tmp 2) (.tmp 15) rfl w.heap.size rfl (reckL c) rfl HT.out ?_;intro Y hY hl;have HY:=Lib.hid hY;have HL:=Lib.hid hl;clear hY hl)
  refine bodyPost_ret (results_cell rfl rfl HL.out) rfl ⟨rfl,?_⟩
  rw [HY.out]
  exact below_setCells (Nat.le_refl _) _ _ _ HB2.out
theorem doct_5 (c:Int) (h0:0 ≤ c) (_:c < 256) (hq:c / 8=5) (w:World):Calls Tryz.prog 53 #[.int .i64 c] w fun e w'=>e=.returned (lfV (reckL c))∧Below w.heap.size w w':=by
  have HR:=Lib.hid (dreck_any c h0 (by omega))
  go_enter Tryz.func53,Tryz.ntmps53
  go_wp2_with fail
  refine (HR.out _).mono ?_
  rintro e w2 ⟨rfl,hb2⟩
  have HT:=Lib.hid (there_last (n:=7) hb2 (by decide))
  have HB2:=Lib.hid (below_first hb2)
  clear hb2
  go_wp2_with (refine store_lf rfl (.tmp 2) (.tmp 15) rfl w.heap.size rfl (reckL c) rfl HT.out ?_;intro Y hY hl;have HY:=Lib.hid hY;have HL:=Lib.hid hl;clear hY hl)
  refine bodyPost_ret (results_cell rfl rfl HL.out) rfl ⟨rfl,?_⟩
  rw [HY.out]
  exact below_setCells (Nat.le_refl _) _ _ _ HB2.out
theorem doct_6 (c:Int) (h0:0 ≤ c) (_:c < 256) (hq:c / 8=6) (w:World):Calls Tryz.prog 53 #[.int .i64 c] w fun e w'=>e=.returned (lfV (reckL c))∧Below w.heap.size w w':=by
  have HR:=Lib.hid (dreck_any c h0 (by omega))
  go_enter Tryz.func53,Tryz.ntmps53
  go_wp2_with fail
  refine (HR.out _).mono ?_
  rintro e w2 ⟨rfl,hb2⟩
  have HT:=Lib.hid (there_last (n:=7) hb2 (by decide))
  have HB2:=Lib.hid (below_first hb2)
  clear hb2
  go_wp2_with (refine store_lf rfl (.tmp 2) (.tmp 15) rfl w.heap.size rfl (reckL c) rfl HT.out ?_;intro Y hY hl;have HY:=Lib.hid hY;have HL:=Lib.hid hl;clear hY hl)
  refine bodyPost_ret (results_cell rfl rfl HL.out) rfl ⟨rfl,?_⟩
  rw [HY.out]
  exact below_setCells (Nat.le_refl _) _ _ _ HB2.out
theorem doct_7 (c:Int) (h0:0 ≤ c) (_:c < 256) (hq:c / 8=7) (w:World):Calls Tryz.prog 53 #[.int .i64 c] w fun e w'=>e=.returned (lfV (reckL c))∧Below w.heap.size w w':=by
  have HR:=Lib.hid (dreck_any c h0 (by omega))
  go_enter Tryz.func53,Tryz.ntmps53
  go_wp2_with fail
  refine (HR.out _).mono ?_
  rintro e w2 ⟨rfl,hb2⟩
  have HT:=Lib.hid (there_last (n:=7) hb2 (by decide))
  have HB2:=Lib.hid (below_first hb2)
  clear hb2
  go_wp2_with (refine store_lf rfl (.tmp 2) (.tmp 15) rfl w.heap.size rfl (reckL c) rfl HT.out ?_;intro Y hY hl;have HY:=Lib.hid hY;have HL:=Lib.hid hl;clear hY hl)
  refine bodyPost_ret (results_cell rfl rfl HL.out) rfl ⟨rfl,?_⟩
  rw [HY.out]
  exact below_setCells (Nat.le_refl _) _ _ _ HB2.out
theorem doct_8 (c:Int) (_:0 ≤ c) (_:c < 256) (hq:c / 8=8) (w:World):Calls Tryz.prog 53 #[.int .i64 c] w fun e w'=>e=.returned (lfV ⟨16,0,4,some .named,none,none,false⟩)∧Below w.heap.size w w':=by
  go_enter Tryz.func53,Tryz.ntmps53
  go_wp2_with (go_at_call 65;(with_reducible refine (dcond_any _ (by first | decide | omega) (by first | decide | omega) _).mono ?_);rintro e w' ⟨rfl,rfl⟩)
  go_returns
  exact ⟨rfl,BC.h⟩
theorem doct_9 (c:Int) (_:0 ≤ c) (_:c < 256) (hq:c / 8=9) (w:World):Calls Tryz.prog 53 #[.int .i64 c] w fun e w'=>e=.returned (lfV ⟨17,0,4,some .named,none,none,false⟩)∧Below w.heap.size w w':=by
  go_enter Tryz.func53,Tryz.ntmps53
  go_wp2_with (go_at_call 65;(with_reducible refine (dcond_any _ (by first | decide | omega) (by first | decide | omega) _).mono ?_);rintro e w' ⟨rfl,rfl⟩)
  go_returns
  exact ⟨rfl,BC.h⟩
theorem doct_10 (c:Int) (_:0 ≤ c) (_:c < 256) (hq:c / 8=10) (w:World):Calls Tryz.prog 53 #[.int .i64 c] w fun e w'=>e=.returned (lfV ⟨23,0,4,some .named,none,none,false⟩)∧Below w.heap.size w w':=by
  go_enter Tryz.func53,Tryz.ntmps53
  go_wp2_with (go_at_call 65;(with_reducible refine (dcond_any _ (by first | decide | omega) (by first | decide | omega) _).mono ?_);rintro e w' ⟨rfl,rfl⟩)
  go_returns
  exact ⟨rfl,BC.h⟩
theorem doct_11 (c:Int) (_:0 ≤ c) (_:c < 256) (hq:c / 8=11) (w:World):Calls Tryz.prog 53 #[.int .i64 c] w fun e w'=>e=.returned (lfV ⟨24,0,4,some .named,none,none,false⟩)∧Below w.heap.size w w':=by
  go_enter Tryz.func53,Tryz.ntmps53
  go_wp2_with (go_at_call 65;(with_reducible refine (dcond_any _ (by first | decide | omega) (by first | decide | omega) _).mono ?_);rintro e w' ⟨rfl,rfl⟩)
  go_returns
  exact ⟨rfl,BC.h⟩
theorem doct_14 (c:Int) (h0:0 ≤ c) (h1:c < 256) (hq:c / 8=14) (w:World):Calls Tryz.prog 53 #[.int .i64 c] w fun e w'=>e=.returned (lfV ⟨31,c % 16,0,some .short,none,none,false⟩)∧Below w.heap.size w w':=by
  go_enter Tryz.func53,Tryz.ntmps53
  go_wp2_with (go_at_call 65;(with_reducible refine (dcond_any _ (by first | decide | omega) (by first | decide | omega) _).mono ?_);rintro e w' ⟨rfl,rfl⟩)
  go_returns
  exact ⟨rfl,BC.h⟩
theorem doct_15 (c:Int) (h0:0 ≤ c) (h1:c < 256) (hq:c / 8=15) (w:World):Calls Tryz.prog 53 #[.int .i64 c] w fun e w'=>e=.returned (lfV ⟨31,c % 16,0,some .short,none,none,false⟩)∧Below w.heap.size w w':=by
  go_enter Tryz.func53,Tryz.ntmps53
  go_wp2_with (go_at_call 65;(with_reducible refine (dcond_any _ (by first | decide | omega) (by first | decide | omega) _).mono ?_);rintro e w' ⟨rfl,rfl⟩)
  go_returns
  exact ⟨rfl,BC.h⟩
theorem doct_22 (c:Int) (_:0 ≤ c) (_:c < 256) (hq:c / 8=22) (w:World):Calls Tryz.prog 53 #[.int .i64 c] w fun e w'=>e=.returned (lfV ⟨18,0,1,some .named,some .number,none,false⟩)∧Below w.heap.size w w':=by
  go_enter Tryz.func53,Tryz.ntmps53
  go_wp2_with (go_at_call 65;(with_reducible refine (dcond_any _ (by first | decide | omega) (by first | decide | omega) _).mono ?_);rintro e w' ⟨rfl,rfl⟩)
  go_returns
  exact ⟨rfl,BC.h⟩
theorem doct_23 (c:Int) (_:0 ≤ c) (_:c < 256) (hq:c / 8=23) (w:World):Calls Tryz.prog 53 #[.int .i64 c] w fun e w'=>e=.returned (lfV ⟨18,0,4,some .named,some .number,none,false⟩)∧Below w.heap.size w w':=by
  go_enter Tryz.func53,Tryz.ntmps53
  go_wp2_with (go_at_call 65;(with_reducible refine (dcond_any _ (by first | decide | omega) (by first | decide | omega) _).mono ?_);rintro e w' ⟨rfl,rfl⟩)
  go_returns
  exact ⟨rfl,BC.h⟩
theorem doct_none (c:Int) (h0:0 ≤ c) (h1:c < 256) (n0:c / 8 ≠ 0) (n1:c / 8 ≠ 1) (n2:c / 8 ≠ 2) (n3:c / 8 ≠ 3) (n4:c / 8 ≠ 4) (n5:c / 8 ≠ 5) (n6:c / 8 ≠ 6) (n7:c / 8 ≠ 7) (n8:c / 8 ≠ 8) (n9:c / 8 ≠ 9) (n10:c / 8 ≠ 10) (n11:c / 8 ≠ 11) (n14:c / 8 ≠ 14) (n15:c / 8 ≠ 15) (n22:c / 8 ≠ 22) (n23:c / 8 ≠ 23) (w:World):Calls Tryz.prog 53 #[.int .i64 c] w fun e w'=>e=.returned (lfV (singleL c))∧Below w.heap.size w w':=by
  have e0:(c / 8 == 0)=false:=by simpa using n0
  have e1:(c / 8 == 1)=false:=by simpa using n1
  have e2:(c / 8 == 2)=false:=by simpa using n2
  have e3:(c / 8 == 3)=false:=by simpa using n3
  have e4:(c / 8 == 4)=false:=by simpa using n4
  have e5:(c / 8 == 5)=false:=by simpa using n5
  have e6:(c / 8 == 6)=false:=by simpa using n6
  have e7:(c / 8 == 7)=false:=by simpa using n7
  have e8:(c / 8 == 8)=false:=by simpa using n8
  have e9:(c / 8 == 9)=false:=by simpa using n9
  have e10:(c / 8 == 10)=false:=by simpa using n10
  have e11:(c / 8 == 11)=false:=by simpa using n11
  have e14:(c / 8 == 14)=false:=by simpa using n14
  have e15:(c / 8 == 15)=false:=by simpa using n15
  have e22:(c / 8 == 22)=false:=by simpa using n22
  have e23:(c / 8 == 23)=false:=by simpa using n23
  clear n0 n1 n2 n3 n4 n5 n6 n7 n8 n9 n10 n11 n14 n15 n22 n23
  have HR:=Lib.hid (dsingle_any c h0 h1)
  go_enter Tryz.func53,Tryz.ntmps53
  go_wp2_with fail
  refine (HR.out _).mono ?_
  rintro e w2 ⟨rfl,hb2⟩
  have HT:=Lib.hid (there_last (n:=7) hb2 (by decide))
  have HB2:=Lib.hid (below_first hb2)
  clear hb2
  go_wp2_with (refine store_lf rfl (.tmp 2) (.tmp 41) rfl w.heap.size rfl (singleL c) rfl HT.out ?_;intro Y hY hl;have HY:=Lib.hid hY;have HL:=Lib.hid hl;clear hY hl)
  refine bodyPost_ret (results_cell rfl rfl HL.out) rfl ⟨rfl,?_⟩
  rw [HY.out]
  exact below_setCells (Nat.le_refl _) _ _ _ HB2.out
set_option maxRecDepth 512
theorem doct_any (c:Int) (h0:0 ≤ c) (h1:c < 256) (w:World):Calls Tryz.prog 53 #[.int .i64 c] w fun e w'=>e=.returned (lfV (octL c))∧Below w.heap.size w w':=by
  by_cases n0:c / 8=0
  · have:=doct_0 c h0 h1 n0 w
    unfold octL
    rw [if_pos (by omega)]
    exact this
  by_cases n1:c / 8=1
  · have:=doct_1 c h0 h1 n1 w
    unfold octL
    rw [if_pos (by omega)]
    exact this
  by_cases n2:c / 8=2
  · have:=doct_2 c h0 h1 n2 w
    unfold octL
    rw [if_pos (by omega)]
    exact this
  by_cases n3:c / 8=3
  · have:=doct_3 c h0 h1 n3 w
    unfold octL
    rw [if_pos (by omega)]
    exact this
  by_cases n4:c / 8=4
  · have:=doct_4 c h0 h1 n4 w
    unfold octL
    rw [if_pos (by omega)]
    exact this
  by_cases n5:c / 8=5
  · have:=doct_5 c h0 h1 n5 w
    unfold octL
    rw [if_pos (by omega)]
    exact this
  by_cases n6:c / 8=6
  · have:=doct_6 c h0 h1 n6 w
    unfold octL
    rw [if_pos (by omega)]
    exact this
  by_cases n7:c / 8=7
  · have:=doct_7 c h0 h1 n7 w
    unfold octL
    rw [if_pos (by omega)]
    exact this
  by_cases n8:c / 8=8
  · have:=doct_8 c h0 h1 n8 w
    unfold octL
    rw [if_neg (by omega),if_pos (by omega)]
    exact this
  by_cases n9:c / 8=9
  · have:=doct_9 c h0 h1 n9 w
    unfold octL
    rw [if_neg (by omega),if_neg (by omega),if_pos (by omega)]
    exact this
  by_cases n10:c / 8=10
  · have:=doct_10 c h0 h1 n10 w
    unfold octL
    rw [if_neg (by omega),if_neg (by omega),if_neg (by omega),if_pos (by omega)]
    exact this
  by_cases n11:c / 8=11
  · have:=doct_11 c h0 h1 n11 w
    unfold octL
    rw [if_neg (by omega),if_neg (by omega),if_neg (by omega),if_neg (by omega),if_pos (by omega)]
    exact this
  by_cases n14:c / 8=14
  · have:=doct_14 c h0 h1 n14 w
    unfold octL
    rw [if_neg (by omega),if_neg (by omega),if_neg (by omega),if_neg (by omega),if_neg (by omega),if_pos (by omega)]
    exact this
  by_cases n15:c / 8=15
  · have:=doct_15 c h0 h1 n15 w
    unfold octL
    rw [if_neg (by omega),if_neg (by omega),if_neg (by omega),if_neg (by omega),if_neg (by omega),if_pos (by omega)]
    exact this
  by_cases n22:c / 8=22
  · have:=doct_22 c h0 h1 n22 w
    unfold octL
    rw [if_neg (by omega),if_neg (by omega),if_neg (by omega),if_neg (by omega),if_neg (by omega),if_neg (by omega),if_pos (by omega)]
    exact this
  by_cases n23:c / 8=23
  · have:=doct_23 c h0 h1 n23 w
    unfold octL
    rw [if_neg (by omega),if_neg (by omega),if_neg (by omega),if_neg (by omega),if_neg (by omega),if_neg (by omega),if_neg (by omega),if_pos (by omega)]
    exact this
  have:=doct_none c h0 h1 n0 n1 n2 n3 n4 n5 n6 n7 n8 n9 n10 n11 n14 n15 n22 n23 w
  unfold octL
  rw [if_neg (by omega),if_neg (by omega),if_neg (by omega),if_neg (by omega),if_neg (by omega),if_neg (by omega),if_neg (by omega),if_neg (by omega)]
  exact this
end
end Go.Proofs.YtlnahkkemjgjbaaGreat
