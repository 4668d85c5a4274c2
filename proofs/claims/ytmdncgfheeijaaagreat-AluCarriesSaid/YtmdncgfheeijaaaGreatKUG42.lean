import Derived.Deep.DeepCutAuto
import Derived.Test.YtmdncgfheeijaaaGreatKUG35
import Derived.Test.YtmdncgfheeijaaaGreatKUG36
import Derived.Test.YtmdncgfheeijaaaGreatKUG37
import Derived.Test.YtmdncgfheeijaaaGreatKUG38
import Derived.Test.YtmdncgfheeijaaaGreatKUG39
import Derived.Test.YtmdncgfheeijaaaGreatKUG41
namespace Go.Proofs.YtmdncgfheeijaaaGreat
open Go.ChangeShapes Go.WideShapes Go.ChangeAt Go.RowKit
set_option maxRecDepth 100000
theorem first_any(c reg:Int)(m3:Bool)(c0:0≤c)(c1:c<256)(r0:-1≤reg)(r1:reg<8)(w:World):Calls Tryz.prog 20 #[.int .u8 c,.int .i64 reg,.bool m3] w fun e w'=>e=.returned (fstL (firstF c reg m3))∧Below w.heap.size w w':=by
 by_cases l0:c<64∧c%8<6
 ·exact first_low c c0 l0.1 l0.2 reg m3 w
 by_cases l64:64≤c∧c<72
 ·exact first_r64 c l64.1 l64.2 reg m3 w
 by_cases l72:72≤c∧c<80
 ·exact first_r72 c l72.1 l72.2 reg m3 w
 by_cases l80:80≤c∧c<88
 ·exact first_r80 c l80.1 l80.2 reg m3 w
 by_cases l88:88≤c∧c<96
 ·exact first_r88 c l88.1 l88.2 reg m3 w
 by_cases l112:112≤c∧c<128
 ·exact first_jcc c l112.1 l112.2 reg m3 w
 by_cases l145:145≤c∧c<152
 ·exact first_r145 c l145.1 l145.2 reg m3 w
 by_cases l176:176≤c∧c<184
 ·exact first_r176 c l176.1 l176.2 reg m3 w
 by_cases l184:184≤c∧c<192
 ·exact first_r184 c l184.1 l184.2 reg m3 w
 by_cases n104:c=104
 ·subst n104
  exact first_h1 104 (by decide) reg m3 w
 by_cases n106:c=106
 ·subst n106
  exact first_h1 106 (by decide) reg m3 w
 by_cases n105:c=105
 ·subst n105
  exact first_105 reg m3 w
 by_cases n107:c=107
 ·subst n107
  exact first_107 reg m3 w
 by_cases n128:c=128
 ·subst n128
  by_cases h:reg<0
  ·exact first_128n reg m3 h w
  ·exact first_128y reg m3 (by omega) r1 w
 by_cases n129:c=129
 ·subst n129
  by_cases h:reg<0
  ·exact first_129n reg m3 h w
  ·exact first_129y reg m3 (by omega) r1 w
 by_cases n131:c=131
 ·subst n131
  by_cases h:reg<0
  ·exact first_131n reg m3 h w
  ·exact first_131y reg m3 (by omega) r1 w
 by_cases n132:c=132
 ·subst n132
  exact first_h1 132 (by decide) reg m3 w
 by_cases n133:c=133
 ·subst n133
  exact first_h1 133 (by decide) reg m3 w
 by_cases n134:c=134
 ·subst n134
  exact first_h1 134 (by decide) reg m3 w
 by_cases n135:c=135
 ·subst n135
  exact first_h1 135 (by decide) reg m3 w
 by_cases n136:c=136
 ·subst n136
  exact first_h1 136 (by decide) reg m3 w
 by_cases n137:c=137
 ·subst n137
  exact first_h1 137 (by decide) reg m3 w
 by_cases n138:c=138
 ·subst n138
  exact first_h1 138 (by decide) reg m3 w
 by_cases n139:c=139
 ·subst n139
  exact first_h1 139 (by decide) reg m3 w
 by_cases n141:c=141
 ·subst n141
  by_cases h:reg<0
  ·exact first_141n reg m3 h w
  ·exact first_141y reg m3 (by omega) w
 by_cases n143:c=143
 ·subst n143
  exact first_143 reg m3 r0 r1 w
 by_cases n144:c=144
 ·subst n144
  exact first_h2 144 (by decide) reg m3 w
 by_cases n152:c=152
 ·subst n152
  exact first_h2 152 (by decide) reg m3 w
 by_cases n153:c=153
 ·subst n153
  exact first_h2 153 (by decide) reg m3 w
 by_cases n160:c=160
 ·subst n160
  exact first_h2 160 (by decide) reg m3 w
 by_cases n161:c=161
 ·subst n161
  exact first_h2 161 (by decide) reg m3 w
 by_cases n162:c=162
 ·subst n162
  exact first_h2 162 (by decide) reg m3 w
 by_cases n163:c=163
 ·subst n163
  exact first_h2 163 (by decide) reg m3 w
 by_cases n164:c=164
 ·subst n164
  exact first_h2 164 (by decide) reg m3 w
 by_cases n165:c=165
 ·subst n165
  exact first_h2 165 (by decide) reg m3 w
 by_cases n168:c=168
 ·subst n168
  exact first_h2 168 (by decide) reg m3 w
 by_cases n169:c=169
 ·subst n169
  exact first_h3 169 (by decide) reg m3 w
 by_cases n170:c=170
 ·subst n170
  exact first_h3 170 (by decide) reg m3 w
 by_cases n171:c=171
 ·subst n171
  exact first_h3 171 (by decide) reg m3 w
 by_cases n172:c=172
 ·subst n172
  exact first_h3 172 (by decide) reg m3 w
 by_cases n173:c=173
 ·subst n173
  exact first_h3 173 (by decide) reg m3 w
 by_cases n193:c=193
 ·subst n193
  exact first_193 reg m3 r0 r1 w
 by_cases n209:c=209
 ·subst n209
  exact first_209 reg m3 r0 r1 w
 by_cases n211:c=211
 ·subst n211
  exact first_211 reg m3 r0 r1 w
 by_cases n194:c=194
 ·subst n194
  exact first_h3 194 (by decide) reg m3 w
 by_cases n195:c=195
 ·subst n195
  exact first_h3 195 (by decide) reg m3 w
 by_cases n198:c=198
 ·subst n198
  exact first_198 reg m3 r0 r1 w
 by_cases n199:c=199
 ·subst n199
  exact first_199 reg m3 r0 r1 w
 by_cases n201:c=201
 ·subst n201
  exact first_h3 201 (by decide) reg m3 w
 by_cases n204:c=204
 ·subst n204
  exact first_h3 204 (by decide) reg m3 w
 by_cases n244:c=244
 ·subst n244
  exact first_h4 244 (by decide) reg m3 w
 by_cases n232:c=232
 ·subst n232
  exact first_h3 232 (by decide) reg m3 w
 by_cases n233:c=233
 ·subst n233
  exact first_h4 233 (by decide) reg m3 w
 by_cases n235:c=235
 ·subst n235
  exact first_h4 235 (by decide) reg m3 w
 by_cases n245:c=245
 ·subst n245
  exact first_h4 245 (by decide) reg m3 w
 by_cases n248:c=248
 ·subst n248
  exact first_h4 248 (by decide) reg m3 w
 by_cases n249:c=249
 ·subst n249
  exact first_h4 249 (by decide) reg m3 w
 by_cases n252:c=252
 ·subst n252
  exact first_h4 252 (by decide) reg m3 w
 by_cases n253:c=253
 ·subst n253
  exact first_h4 253 (by decide) reg m3 w
 by_cases n246:c=246
 ·subst n246
  by_cases h:reg=0
  ·subst h;exact first_246z m3 w
  ·exact first_246b reg m3 r0 r1 h w
 by_cases n247:c=247
 ·subst n247
  by_cases h:reg=0
  ·subst h;exact first_247z m3 w
  ·exact first_247b reg m3 r0 r1 h w
 by_cases n254:c=254
 ·subst n254
  exact first_254 reg m3 r0 r1 w
 by_cases n255:c=255
 ·subst n255
  exact first_255 reg m3 r0 r1 w
 by_cases z0:0≤c∧c<64
 ·exact first_n0 c z0.1 z0.2 (by omega) ⟨n104,n106,n105,n107,n128,n129,n131,n132,n133,n134,n135,n136,n137,n138,n139,n141,n143,n144,n152,n153,n160,n161,n162,n163,n164,n165,n168,n169,n170,n171,n172,n173,n193,n209,n211,n194,n195,n198,n199,n201,n204,n244,n232,n233,n235,n245,n248,n249,n252,n253,n246,n247,n254,n255⟩ reg m3 w
 by_cases z96:96≤c∧c<112
 ·exact first_n96 c z96.1 z96.2 ⟨n104,n106,n105,n107,n128,n129,n131,n132,n133,n134,n135,n136,n137,n138,n139,n141,n143,n144,n152,n153,n160,n161,n162,n163,n164,n165,n168,n169,n170,n171,n172,n173,n193,n209,n211,n194,n195,n198,n199,n201,n204,n244,n232,n233,n235,n245,n248,n249,n252,n253,n246,n247,n254,n255⟩ reg m3 w
 by_cases z128:128≤c∧c<145
 ·exact first_n128 c z128.1 z128.2 ⟨n104,n106,n105,n107,n128,n129,n131,n132,n133,n134,n135,n136,n137,n138,n139,n141,n143,n144,n152,n153,n160,n161,n162,n163,n164,n165,n168,n169,n170,n171,n172,n173,n193,n209,n211,n194,n195,n198,n199,n201,n204,n244,n232,n233,n235,n245,n248,n249,n252,n253,n246,n247,n254,n255⟩ reg m3 w
 by_cases z152:152≤c∧c<176
 ·exact first_n152 c z152.1 z152.2 ⟨n104,n106,n105,n107,n128,n129,n131,n132,n133,n134,n135,n136,n137,n138,n139,n141,n143,n144,n152,n153,n160,n161,n162,n163,n164,n165,n168,n169,n170,n171,n172,n173,n193,n209,n211,n194,n195,n198,n199,n201,n204,n244,n232,n233,n235,n245,n248,n249,n252,n253,n246,n247,n254,n255⟩ reg m3 w
 by_cases z192:192≤c∧c<256
 ·exact first_n192 c z192.1 z192.2 ⟨n104,n106,n105,n107,n128,n129,n131,n132,n133,n134,n135,n136,n137,n138,n139,n141,n143,n144,n152,n153,n160,n161,n162,n163,n164,n165,n168,n169,n170,n171,n172,n173,n193,n209,n211,n194,n195,n198,n199,n201,n204,n244,n232,n233,n235,n245,n248,n249,n252,n253,n246,n247,n254,n255⟩ reg m3 w
 omega
set_option maxHeartbeats 4000000
theorem second_r64(c:Int)(h0:64≤c)(h1:c<80)(w:World):Calls Tryz.prog 21 #[.int .u8 0,.int .u8 c] w fun e w'=>e=.returned (secL (secondF 0 c))∧Below w.heap.size w w':=by
 have HX:=Lib.hid (show secondF 0 c=(⟨36,c%16,4,[71,69],0⟩,true)by unfold secondF;rw[if_pos rfl];rw[if_pos ⟨h0,h1⟩])
 have a15:=and15 c (by omega) (by omega)
 have w15:IntKind.i64.wrap (c%16)=c%16:=by rw[IntKind.wrap_i64];omega
 have g64:decide (64≤c)=true:=decide_eq_true (by omega)
 have l64:decide (c<64)=false:=decide_eq_false (by omega)
 have g80:decide (80≤c)=false:=decide_eq_false (by omega)
 have l80:decide (c<80)=true:=decide_eq_true (by omega)
 have g128:decide (128≤c)=false:=decide_eq_false (by omega)
 have l128:decide (c<128)=true:=decide_eq_true (by omega)
 have g144:decide (144≤c)=false:=decide_eq_false (by omega)
 have l144:decide (c<144)=true:=decide_eq_true (by omega)
 have g160:decide (160≤c)=false:=decide_eq_false (by omega)
 have l160:decide (c<160)=true:=decide_eq_true (by omega)
 clear h0 h1
 go_enter Tryz.func21,Tryz.ntmps21
 go_wp2
 go_returns
 refine⟨by rw[HX.out];rfl,?_⟩
 repeat(first|exact Below.refl _ _|(with_reducible refine Below.drew ?_)|(with_reducible refine below_last ?_ _))
theorem second_r128(c:Int)(h0:128≤c)(h1:c<144)(w:World):Calls Tryz.prog 21 #[.int .u8 0,.int .u8 c] w fun e w'=>e=.returned (secL (secondF 0 c))∧Below w.heap.size w w':=by
 have HX:=Lib.hid (show secondF 0 c=(⟨31,c%16,0,[105],0⟩,true)by unfold secondF;rw[if_pos rfl];rw[if_neg (by omega)];rw[if_pos ⟨h0,h1⟩])
 have a15:=and15 c (by omega) (by omega)
 have w15:IntKind.i64.wrap (c%16)=c%16:=by rw[IntKind.wrap_i64];omega
 have g64:decide (64≤c)=true:=decide_eq_true (by omega)
 have l64:decide (c<64)=false:=decide_eq_false (by omega)
 have g80:decide (80≤c)=true:=decide_eq_true (by omega)
 have l80:decide (c<80)=false:=decide_eq_false (by omega)
 have g128:decide (128≤c)=true:=decide_eq_true (by omega)
 have l128:decide (c<128)=false:=decide_eq_false (by omega)
 have g144:decide (144≤c)=false:=decide_eq_false (by omega)
 have l144:decide (c<144)=true:=decide_eq_true (by omega)
 have g160:decide (160≤c)=false:=decide_eq_false (by omega)
 have l160:decide (c<160)=true:=decide_eq_true (by omega)
 clear h0 h1
 go_enter Tryz.func21,Tryz.ntmps21
 go_wp2
 go_returns
 refine⟨by rw[HX.out];rfl,?_⟩
 repeat(first|exact Below.refl _ _|(with_reducible refine Below.drew ?_)|(with_reducible refine below_last ?_ _))
theorem second_r144(c:Int)(h0:144≤c)(h1:c<160)(w:World):Calls Tryz.prog 21 #[.int .u8 0,.int .u8 c] w fun e w'=>e=.returned (secL (secondF 0 c))∧Below w.heap.size w w':=by
 have HX:=Lib.hid (show secondF 0 c=(⟨35,c%16,1,[69],0⟩,true)by unfold secondF;rw[if_pos rfl];rw[if_neg (by omega)];rw[if_neg (by omega)];rw[if_pos ⟨h0,h1⟩])
 have a15:=and15 c (by omega) (by omega)
 have w15:IntKind.i64.wrap (c%16)=c%16:=by rw[IntKind.wrap_i64];omega
 have g64:decide (64≤c)=true:=decide_eq_true (by omega)
 have l64:decide (c<64)=false:=decide_eq_false (by omega)
 have g80:decide (80≤c)=true:=decide_eq_true (by omega)
 have l80:decide (c<80)=false:=decide_eq_false (by omega)
 have g128:decide (128≤c)=true:=decide_eq_true (by omega)
 have l128:decide (c<128)=false:=decide_eq_false (by omega)
 have g144:decide (144≤c)=true:=decide_eq_true (by omega)
 have l144:decide (c<144)=false:=decide_eq_false (by omega)
 have g160:decide (160≤c)=false:=decide_eq_false (by omega)
 have l160:decide (c<160)=true:=decide_eq_true (by omega)
 clear h0 h1
 go_enter Tryz.func21,Tryz.ntmps21
 go_wp2
 go_returns
 refine⟨by rw[HX.out];rfl,?_⟩
 repeat(first|exact Below.refl _ _|(with_reducible refine Below.drew ?_)|(with_reducible refine below_last ?_ _))
theorem second_0_175(w:World):Calls Tryz.prog 21 #[.int .u8 0,.int .u8 175] w fun e w'=>e=.returned (secL (secondF 0 175))∧Below w.heap.size w w':=by
 go_enter Tryz.func21,Tryz.ntmps21
 go_wp2
 go_region
 all_goals
  go_wp2
  go_returns
  refine⟨by rfl,?_⟩
  repeat(first|exact Below.refl _ _|(with_reducible refine Below.drew ?_)|(with_reducible refine below_last ?_ _))
theorem second_0_182(w:World):Calls Tryz.prog 21 #[.int .u8 0,.int .u8 182] w fun e w'=>e=.returned (secL (secondF 0 182))∧Below w.heap.size w w':=by
 have b1:bits .and .u8 182 1=0:=and1 182 (by decide) (by decide)
 go_enter Tryz.func21,Tryz.ntmps21
 go_wp2
 go_region
 all_goals
  go_wp2
  go_returns
  refine⟨by rfl,?_⟩
  repeat(first|exact Below.refl _ _|(with_reducible refine Below.drew ?_)|(with_reducible refine below_last ?_ _))
theorem second_0_183(w:World):Calls Tryz.prog 21 #[.int .u8 0,.int .u8 183] w fun e w'=>e=.returned (secL (secondF 0 183))∧Below w.heap.size w w':=by
 have b1:bits .and .u8 183 1=1:=and1 183 (by decide) (by decide)
 go_enter Tryz.func21,Tryz.ntmps21
 go_wp2
 go_region
 all_goals
  go_wp2
  go_returns
  refine⟨by rfl,?_⟩
  repeat(first|exact Below.refl _ _|(with_reducible refine Below.drew ?_)|(with_reducible refine below_last ?_ _))
theorem second_0_190(w:World):Calls Tryz.prog 21 #[.int .u8 0,.int .u8 190] w fun e w'=>e=.returned (secL (secondF 0 190))∧Below w.heap.size w w':=by
 have b1:bits .and .u8 190 1=0:=and1 190 (by decide) (by decide)
 go_enter Tryz.func21,Tryz.ntmps21
 go_wp2
 go_region
 all_goals
  go_wp2
  go_returns
  refine⟨by rfl,?_⟩
  repeat(first|exact Below.refl _ _|(with_reducible refine Below.drew ?_)|(with_reducible refine below_last ?_ _))
theorem second_0_191(w:World):Calls Tryz.prog 21 #[.int .u8 0,.int .u8 191] w fun e w'=>e=.returned (secL (secondF 0 191))∧Below w.heap.size w w':=by
 have b1:bits .and .u8 191 1=1:=and1 191 (by decide) (by decide)
 go_enter Tryz.func21,Tryz.ntmps21
 go_wp2
 go_region
 all_goals
  go_wp2
  go_returns
  refine⟨by rfl,?_⟩
  repeat(first|exact Below.refl _ _|(with_reducible refine Below.drew ?_)|(with_reducible refine below_last ?_ _))
theorem second_102_46(w:World):Calls Tryz.prog 21 #[.int .u8 102,.int .u8 46] w fun e w'=>e=.returned (secL (secondF 102 46))∧Below w.heap.size w w':=by
 go_enter Tryz.func21,Tryz.ntmps21
 go_wp2
 go_region
 all_goals
  go_wp2
  go_returns
  refine⟨by rfl,?_⟩
  repeat(first|exact Below.refl _ _|(with_reducible refine Below.drew ?_)|(with_reducible refine below_last ?_ _))
theorem second_242_16(w:World):Calls Tryz.prog 21 #[.int .u8 242,.int .u8 16] w fun e w'=>e=.returned (secL (secondF 242 16))∧Below w.heap.size w w':=by
 go_enter Tryz.func21,Tryz.ntmps21
 go_wp2
 go_region
 all_goals
  go_wp2
  go_returns
  refine⟨by rfl,?_⟩
  repeat(first|exact Below.refl _ _|(with_reducible refine Below.drew ?_)|(with_reducible refine below_last ?_ _))
theorem second_242_17(w:World):Calls Tryz.prog 21 #[.int .u8 242,.int .u8 17] w fun e w'=>e=.returned (secL (secondF 242 17))∧Below w.heap.size w w':=by
 go_enter Tryz.func21,Tryz.ntmps21
 go_wp2
 go_region
 all_goals
  go_wp2
  go_returns
  refine⟨by rfl,?_⟩
  repeat(first|exact Below.refl _ _|(with_reducible refine Below.drew ?_)|(with_reducible refine below_last ?_ _))
theorem second_242_42(w:World):Calls Tryz.prog 21 #[.int .u8 242,.int .u8 42] w fun e w'=>e=.returned (secL (secondF 242 42))∧Below w.heap.size w w':=by
 go_enter Tryz.func21,Tryz.ntmps21
 go_wp2
 go_region
 all_goals
  go_wp2
  go_returns
  refine⟨by rfl,?_⟩
  repeat(first|exact Below.refl _ _|(with_reducible refine Below.drew ?_)|(with_reducible refine below_last ?_ _))
theorem second_242_44(w:World):Calls Tryz.prog 21 #[.int .u8 242,.int .u8 44] w fun e w'=>e=.returned (secL (secondF 242 44))∧Below w.heap.size w w':=by
 go_enter Tryz.func21,Tryz.ntmps21
 go_wp2
 go_region
 all_goals
  go_wp2
  go_returns
  refine⟨by rfl,?_⟩
  repeat(first|exact Below.refl _ _|(with_reducible refine Below.drew ?_)|(with_reducible refine below_last ?_ _))
theorem s2_maps(w:World):(Instr.mapUpdate 100 (.map (some (w.heap.size+1+1))) (.int .u8 81) (.int .i64 58)).run Tryz.prog (((w.alloc (.cells #[.int .i64 0,.int .i64 0,.int .i64 0,.string ⟨#[]⟩,.int .i64 0] 63)).alloc (.cells #[.int .i64 0,.int .i64 0,.int .i64 8,.string ⟨#[]⟩,.int .i64 0] 63)).alloc (.map #[] 0))=.ok () (((w.alloc (.cells #[.int .i64 0,.int .i64 0,.int .i64 0,.string ⟨#[]⟩,.int .i64 0] 63)).alloc (.cells #[.int .i64 0,.int .i64 0,.int .i64 8,.string ⟨#[]⟩,.int .i64 0] 63)).alloc (.map #[{ key:=.int .u8 81,val:=.int .i64 58,born:=0 }] 1)) ∧
  (Instr.mapUpdate 100 (.map (some (w.heap.size+1+1))) (.int .u8 88) (.int .i64 52)).run Tryz.prog (((w.alloc (.cells #[.int .i64 0,.int .i64 0,.int .i64 0,.string ⟨#[]⟩,.int .i64 0] 63)).alloc (.cells #[.int .i64 0,.int .i64 0,.int .i64 8,.string ⟨#[]⟩,.int .i64 0] 63)).alloc (.map #[{ key:=.int .u8 81,val:=.int .i64 58,born:=0 }] 1))=.ok () (((w.alloc (.cells #[.int .i64 0,.int .i64 0,.int .i64 0,.string ⟨#[]⟩,.int .i64 0] 63)).alloc (.cells #[.int .i64 0,.int .i64 0,.int .i64 8,.string ⟨#[]⟩,.int .i64 0] 63)).alloc (.map #[{ key:=.int .u8 81,val:=.int .i64 58,born:=0 },{ key:=.int .u8 88,val:=.int .i64 52,born:=1 }] 2)) ∧
  (Instr.mapUpdate 100 (.map (some (w.heap.size+1+1))) (.int .u8 89) (.int .i64 53)).run Tryz.prog (((w.alloc (.cells #[.int .i64 0,.int .i64 0,.int .i64 0,.string ⟨#[]⟩,.int .i64 0] 63)).alloc (.cells #[.int .i64 0,.int .i64 0,.int .i64 8,.string ⟨#[]⟩,.int .i64 0] 63)).alloc (.map #[{ key:=.int .u8 81,val:=.int .i64 58,born:=0 },{ key:=.int .u8 88,val:=.int .i64 52,born:=1 }] 2))=.ok () (((w.alloc (.cells #[.int .i64 0,.int .i64 0,.int .i64 0,.string ⟨#[]⟩,.int .i64 0] 63)).alloc (.cells #[.int .i64 0,.int .i64 0,.int .i64 8,.string ⟨#[]⟩,.int .i64 0] 63)).alloc (.map #[{ key:=.int .u8 81,val:=.int .i64 58,born:=0 },{ key:=.int .u8 88,val:=.int .i64 52,born:=1 },{ key:=.int .u8 89,val:=.int .i64 53,born:=2 }] 3)) ∧
  (Instr.mapUpdate 100 (.map (some (w.heap.size+1+1))) (.int .u8 92) (.int .i64 54)).run Tryz.prog (((w.alloc (.cells #[.int .i64 0,.int .i64 0,.int .i64 0,.string ⟨#[]⟩,.int .i64 0] 63)).alloc (.cells #[.int .i64 0,.int .i64 0,.int .i64 8,.string ⟨#[]⟩,.int .i64 0] 63)).alloc (.map #[{ key:=.int .u8 81,val:=.int .i64 58,born:=0 },{ key:=.int .u8 88,val:=.int .i64 52,born:=1 },{ key:=.int .u8 89,val:=.int .i64 53,born:=2 }] 3))=.ok () (((w.alloc (.cells #[.int .i64 0,.int .i64 0,.int .i64 0,.string ⟨#[]⟩,.int .i64 0] 63)).alloc (.cells #[.int .i64 0,.int .i64 0,.int .i64 8,.string ⟨#[]⟩,.int .i64 0] 63)).alloc (.map #[{ key:=.int .u8 81,val:=.int .i64 58,born:=0 },{ key:=.int .u8 88,val:=.int .i64 52,born:=1 },{ key:=.int .u8 89,val:=.int .i64 53,born:=2 },{ key:=.int .u8 92,val:=.int .i64 54,born:=3 }] 4)) ∧
  (Instr.mapUpdate 100 (.map (some (w.heap.size+1+1))) (.int .u8 93) (.int .i64 55)).run Tryz.prog (((w.alloc (.cells #[.int .i64 0,.int .i64 0,.int .i64 0,.string ⟨#[]⟩,.int .i64 0] 63)).alloc (.cells #[.int .i64 0,.int .i64 0,.int .i64 8,.string ⟨#[]⟩,.int .i64 0] 63)).alloc (.map #[{ key:=.int .u8 81,val:=.int .i64 58,born:=0 },{ key:=.int .u8 88,val:=.int .i64 52,born:=1 },{ key:=.int .u8 89,val:=.int .i64 53,born:=2 },{ key:=.int .u8 92,val:=.int .i64 54,born:=3 }] 4))=.ok () (((w.alloc (.cells #[.int .i64 0,.int .i64 0,.int .i64 0,.string ⟨#[]⟩,.int .i64 0] 63)).alloc (.cells #[.int .i64 0,.int .i64 0,.int .i64 8,.string ⟨#[]⟩,.int .i64 0] 63)).alloc (.map #[{ key:=.int .u8 81,val:=.int .i64 58,born:=0 },{ key:=.int .u8 88,val:=.int .i64 52,born:=1 },{ key:=.int .u8 89,val:=.int .i64 53,born:=2 },{ key:=.int .u8 92,val:=.int .i64 54,born:=3 },{ key:=.int .u8 93,val:=.int .i64 55,born:=4 }] 5)) ∧
  (Instr.mapUpdate 100 (.map (some (w.heap.size+1+1))) (.int .u8 94) (.int .i64 56)).run Tryz.prog (((w.alloc (.cells #[.int .i64 0,.int .i64 0,.int .i64 0,.string ⟨#[]⟩,.int .i64 0] 63)).alloc (.cells #[.int .i64 0,.int .i64 0,.int .i64 8,.string ⟨#[]⟩,.int .i64 0] 63)).alloc (.map #[{ key:=.int .u8 81,val:=.int .i64 58,born:=0 },{ key:=.int .u8 88,val:=.int .i64 52,born:=1 },{ key:=.int .u8 89,val:=.int .i64 53,born:=2 },{ key:=.int .u8 92,val:=.int .i64 54,born:=3 },{ key:=.int .u8 93,val:=.int .i64 55,born:=4 }] 5))=.ok () (((w.alloc (.cells #[.int .i64 0,.int .i64 0,.int .i64 0,.string ⟨#[]⟩,.int .i64 0] 63)).alloc (.cells #[.int .i64 0,.int .i64 0,.int .i64 8,.string ⟨#[]⟩,.int .i64 0] 63)).alloc (.map #[{ key:=.int .u8 81,val:=.int .i64 58,born:=0 },{ key:=.int .u8 88,val:=.int .i64 52,born:=1 },{ key:=.int .u8 89,val:=.int .i64 53,born:=2 },{ key:=.int .u8 92,val:=.int .i64 54,born:=3 },{ key:=.int .u8 93,val:=.int .i64 55,born:=4 },{ key:=.int .u8 94,val:=.int .i64 56,born:=5 }] 6)) ∧
  (Instr.mapUpdate 100 (.map (some (w.heap.size+1+1))) (.int .u8 95) (.int .i64 57)).run Tryz.prog (((w.alloc (.cells #[.int .i64 0,.int .i64 0,.int .i64 0,.string ⟨#[]⟩,.int .i64 0] 63)).alloc (.cells #[.int .i64 0,.int .i64 0,.int .i64 8,.string ⟨#[]⟩,.int .i64 0] 63)).alloc (.map #[{ key:=.int .u8 81,val:=.int .i64 58,born:=0 },{ key:=.int .u8 88,val:=.int .i64 52,born:=1 },{ key:=.int .u8 89,val:=.int .i64 53,born:=2 },{ key:=.int .u8 92,val:=.int .i64 54,born:=3 },{ key:=.int .u8 93,val:=.int .i64 55,born:=4 },{ key:=.int .u8 94,val:=.int .i64 56,born:=5 }] 6))=.ok () (((w.alloc (.cells #[.int .i64 0,.int .i64 0,.int .i64 0,.string ⟨#[]⟩,.int .i64 0] 63)).alloc (.cells #[.int .i64 0,.int .i64 0,.int .i64 8,.string ⟨#[]⟩,.int .i64 0] 63)).alloc (.map #[{ key:=.int .u8 81,val:=.int .i64 58,born:=0 },{ key:=.int .u8 88,val:=.int .i64 52,born:=1 },{ key:=.int .u8 89,val:=.int .i64 53,born:=2 },{ key:=.int .u8 92,val:=.int .i64 54,born:=3 },{ key:=.int .u8 93,val:=.int .i64 55,born:=4 },{ key:=.int .u8 94,val:=.int .i64 56,born:=5 },{ key:=.int .u8 95,val:=.int .i64 57,born:=6 }] 7)) ∧
  ∀c v i,Instr.findNow (.int .u8) (.int .u8 c) (#[{ key:=.int .u8 81,val:=.int .i64 58,born:=0 },{ key:=.int .u8 88,val:=.int .i64 52,born:=1 },{ key:=.int .u8 89,val:=.int .i64 53,born:=2 },{ key:=.int .u8 92,val:=.int .i64 54,born:=3 },{ key:=.int .u8 93,val:=.int .i64 55,born:=4 },{ key:=.int .u8 94,val:=.int .i64 56,born:=5 },{ key:=.int .u8 95,val:=.int .i64 57,born:=6 }]:Array MapEntry).toList 0=some (some (i,v))→(Instr.lookup 100 (.map (some (w.heap.size+1+1))) (.int .u8 c) false).run Tryz.prog (((w.alloc (.cells #[.int .i64 0,.int .i64 0,.int .i64 0,.string ⟨#[]⟩,.int .i64 0] 63)).alloc (.cells #[.int .i64 0,.int .i64 0,.int .i64 8,.string ⟨#[]⟩,.int .i64 0] 63)).alloc (.map #[{ key:=.int .u8 81,val:=.int .i64 58,born:=0 },{ key:=.int .u8 88,val:=.int .i64 52,born:=1 },{ key:=.int .u8 89,val:=.int .i64 53,born:=2 },{ key:=.int .u8 92,val:=.int .i64 54,born:=3 },{ key:=.int .u8 93,val:=.int .i64 55,born:=4 },{ key:=.int .u8 94,val:=.int .i64 56,born:=5 },{ key:=.int .u8 95,val:=.int .i64 57,born:=6 }] 7))=.ok v (((w.alloc (.cells #[.int .i64 0,.int .i64 0,.int .i64 0,.string ⟨#[]⟩,.int .i64 0] 63)).alloc (.cells #[.int .i64 0,.int .i64 0,.int .i64 8,.string ⟨#[]⟩,.int .i64 0] 63)).alloc (.map #[{ key:=.int .u8 81,val:=.int .i64 58,born:=0 },{ key:=.int .u8 88,val:=.int .i64 52,born:=1 },{ key:=.int .u8 89,val:=.int .i64 53,born:=2 },{ key:=.int .u8 92,val:=.int .i64 54,born:=3 },{ key:=.int .u8 93,val:=.int .i64 55,born:=4 },{ key:=.int .u8 94,val:=.int .i64 56,born:=5 },{ key:=.int .u8 95,val:=.int .i64 57,born:=6 }] 7)):=
 ⟨litmap_put _ _ (by simp) _ 5 3 .u8 _ 0 81 _ Tryz.underlying100 Tryz.underlying5 rfl,
  litmap_put _ _ (by simp) _ 5 3 .u8 _ 1 88 _ Tryz.underlying100 Tryz.underlying5 rfl,
  litmap_put _ _ (by simp) _ 5 3 .u8 _ 2 89 _ Tryz.underlying100 Tryz.underlying5 rfl,
  litmap_put _ _ (by simp) _ 5 3 .u8 _ 3 92 _ Tryz.underlying100 Tryz.underlying5 rfl,
  litmap_put _ _ (by simp) _ 5 3 .u8 _ 4 93 _ Tryz.underlying100 Tryz.underlying5 rfl,
  litmap_put _ _ (by simp) _ 5 3 .u8 _ 5 94 _ Tryz.underlying100 Tryz.underlying5 rfl,
  litmap_put _ _ (by simp) _ 5 3 .u8 _ 6 95 _ Tryz.underlying100 Tryz.underlying5 rfl,
  fun c v i h=>litmap_get _ _ (by simp) _ 5 3 .u8 _ 7 c v i Tryz.underlying100 Tryz.underlying5 h⟩
set_option maxHeartbeats 8000000
theorem second_242_m(c:Int)(h:c=81∨c=88∨c=89∨c=92∨c=93∨c=94∨c=95)(w:World):Calls Tryz.prog 21 #[.int .u8 242,.int .u8 c] w fun e w'=>e=.returned (secL (secondF 242 c))∧Below w.heap.size w w':=by
 obtain⟨hm0,hm1,hm2,hm3,hm4,hm5,hm6,hG⟩:=s2_maps w
 have hmm:=@run_makeMap Tryz.prog
 have hg0:=hG 81 (.int .i64 58) 0 rfl
 have hg1:=hG 88 (.int .i64 52) 1 rfl
 have hg2:=hG 89 (.int .i64 53) 2 rfl
 have hg3:=hG 92 (.int .i64 54) 3 rfl
 have hg4:=hG 93 (.int .i64 55) 4 rfl
 have hg5:=hG 94 (.int .i64 56) 5 rfl
 have hg6:=hG 95 (.int .i64 57) 6 rfl
 clear hG
 rcases h with rfl|rfl|rfl|rfl|rfl|rfl|rfl
 all_goals
  go_enter Tryz.func21,Tryz.ntmps21
  go_wp2
  go_region
  all_goals
   go_wp2
   go_returns
   refine⟨by rfl,?_⟩
   repeat(first|exact Below.refl _ _|(with_reducible refine Below.drew ?_)|(with_reducible refine below_last ?_ _))
theorem second_242_81(w:World):Calls Tryz.prog 21 #[.int .u8 242,.int .u8 81] w fun e w'=>e=.returned (secL (secondF 242 81))∧Below w.heap.size w w':=second_242_m 81 (by decide) w
theorem second_242_88(w:World):Calls Tryz.prog 21 #[.int .u8 242,.int .u8 88] w fun e w'=>e=.returned (secL (secondF 242 88))∧Below w.heap.size w w':=second_242_m 88 (by decide) w
theorem second_242_89(w:World):Calls Tryz.prog 21 #[.int .u8 242,.int .u8 89] w fun e w'=>e=.returned (secL (secondF 242 89))∧Below w.heap.size w w':=second_242_m 89 (by decide) w
theorem second_242_92(w:World):Calls Tryz.prog 21 #[.int .u8 242,.int .u8 92] w fun e w'=>e=.returned (secL (secondF 242 92))∧Below w.heap.size w w':=second_242_m 92 (by decide) w
theorem second_242_93(w:World):Calls Tryz.prog 21 #[.int .u8 242,.int .u8 93] w fun e w'=>e=.returned (secL (secondF 242 93))∧Below w.heap.size w w':=second_242_m 93 (by decide) w
theorem second_242_94(w:World):Calls Tryz.prog 21 #[.int .u8 242,.int .u8 94] w fun e w'=>e=.returned (secL (secondF 242 94))∧Below w.heap.size w w':=second_242_m 94 (by decide) w
theorem second_242_95(w:World):Calls Tryz.prog 21 #[.int .u8 242,.int .u8 95] w fun e w'=>e=.returned (secL (secondF 242 95))∧Below w.heap.size w w':=second_242_m 95 (by decide) w
theorem second_0_none(c:Int)(c0:0≤c)(c1:c<256)(hs:¬(64≤c∧c<80)∧¬(128≤c∧c<144)∧¬(144≤c∧c<160)∧c≠175∧c≠182∧c≠183∧c≠190∧c≠191)(w:World):Calls Tryz.prog 21 #[.int .u8 0,.int .u8 c] w fun e w'=>e=.returned (secL (secondF 0 c))∧Below w.heap.size w w':=by
 obtain⟨r1,r2,r3,n175,n182,n183,n190,n191⟩:=hs
 have HX:=Lib.hid (show secondF 0 c=(nilF,false)by unfold secondF;rw[if_pos rfl];repeat(rw[if_neg (by omega)]))
 have a15:=and15 c c0 c1
 have w15:IntKind.i64.wrap (c%16)=c%16:=by rw[IntKind.wrap_i64];omega
 have e175:(c==175)=false:=by rw[beq_eq_false_iff_ne];exact n175
 have e182:(c==182)=false:=by rw[beq_eq_false_iff_ne];exact n182
 have e183:(c==183)=false:=by rw[beq_eq_false_iff_ne];exact n183
 have e190:(c==190)=false:=by rw[beq_eq_false_iff_ne];exact n190
 have e191:(c==191)=false:=by rw[beq_eq_false_iff_ne];exact n191
 clear n175 n182 n183 n190 n191
 have hc:c<64∨(80≤c∧c<128)∨160≤c:=by omega
 clear r1 r2 r3
 rcases hc with h|⟨h,h'⟩|h
 ·have g64:decide (64≤c)=false:=decide_eq_false (by omega)
  have l64:decide (c<64)=true:=decide_eq_true (by omega)
  have g80:decide (80≤c)=false:=decide_eq_false (by omega)
  have l80:decide (c<80)=true:=decide_eq_true (by omega)
  have g128:decide (128≤c)=false:=decide_eq_false (by omega)
  have l128:decide (c<128)=true:=decide_eq_true (by omega)
  have g144:decide (144≤c)=false:=decide_eq_false (by omega)
  have l144:decide (c<144)=true:=decide_eq_true (by omega)
  have g160:decide (160≤c)=false:=decide_eq_false (by omega)
  have l160:decide (c<160)=true:=decide_eq_true (by omega)
  go_enter Tryz.func21,Tryz.ntmps21
  go_wp2
  go_region
  all_goals
   go_wp2
   go_returns
   refine⟨by rw[HX.out];rfl,?_⟩
   repeat(first|exact Below.refl _ _|(with_reducible refine Below.drew ?_)|(with_reducible refine below_last ?_ _))
 ·have g64:decide (64≤c)=true:=decide_eq_true (by omega)
  have l64:decide (c<64)=false:=decide_eq_false (by omega)
  have g80:decide (80≤c)=true:=decide_eq_true (by omega)
  have l80:decide (c<80)=false:=decide_eq_false (by omega)
  have g128:decide (128≤c)=false:=decide_eq_false (by omega)
  have l128:decide (c<128)=true:=decide_eq_true (by omega)
  have g144:decide (144≤c)=false:=decide_eq_false (by omega)
  have l144:decide (c<144)=true:=decide_eq_true (by omega)
  have g160:decide (160≤c)=false:=decide_eq_false (by omega)
  have l160:decide (c<160)=true:=decide_eq_true (by omega)
  go_enter Tryz.func21,Tryz.ntmps21
  go_wp2
  go_region
  all_goals
   go_wp2
   go_returns
   refine⟨by rw[HX.out];rfl,?_⟩
   repeat(first|exact Below.refl _ _|(with_reducible refine Below.drew ?_)|(with_reducible refine below_last ?_ _))
 ·have g64:decide (64≤c)=true:=decide_eq_true (by omega)
  have l64:decide (c<64)=false:=decide_eq_false (by omega)
  have g80:decide (80≤c)=true:=decide_eq_true (by omega)
  have l80:decide (c<80)=false:=decide_eq_false (by omega)
  have g128:decide (128≤c)=true:=decide_eq_true (by omega)
  have l128:decide (c<128)=false:=decide_eq_false (by omega)
  have g144:decide (144≤c)=true:=decide_eq_true (by omega)
  have l144:decide (c<144)=false:=decide_eq_false (by omega)
  have g160:decide (160≤c)=true:=decide_eq_true (by omega)
  have l160:decide (c<160)=false:=decide_eq_false (by omega)
  go_enter Tryz.func21,Tryz.ntmps21
  go_wp2
  go_region
  all_goals
   go_wp2
   go_returns
   refine⟨by rw[HX.out];rfl,?_⟩
   repeat(first|exact Below.refl _ _|(with_reducible refine Below.drew ?_)|(with_reducible refine below_last ?_ _))
theorem second_242_none(c:Int)(c0:0≤c)(c1:c<256)(hs:c≠16∧c≠17∧c≠42∧c≠44∧c≠81∧c≠88∧c≠89∧c≠92∧c≠93∧c≠94∧c≠95)(w:World):Calls Tryz.prog 21 #[.int .u8 242,.int .u8 c] w fun e w'=>e=.returned (secL (secondF 242 c))∧Below w.heap.size w w':=by
 obtain⟨n16,n17,n42,n44,n81,n88,n89,n92,n93,n94,n95⟩:=hs
 have HX:=Lib.hid (show secondF 242 c=(⟨0,0,8,[],0⟩,false)by unfold secondF;rw[if_neg (by decide),if_pos rfl];repeat(rw[if_neg (by omega)]))
 have a15:=and15 c c0 c1
 have w15:IntKind.i64.wrap (c%16)=c%16:=by rw[IntKind.wrap_i64];omega
 have e16:(c==16)=false:=by rw[beq_eq_false_iff_ne];exact n16
 have e17:(c==17)=false:=by rw[beq_eq_false_iff_ne];exact n17
 have e42:(c==42)=false:=by rw[beq_eq_false_iff_ne];exact n42
 have e44:(c==44)=false:=by rw[beq_eq_false_iff_ne];exact n44
 have e81:(c==81)=false:=by rw[beq_eq_false_iff_ne];exact n81
 have e88:(c==88)=false:=by rw[beq_eq_false_iff_ne];exact n88
 have e89:(c==89)=false:=by rw[beq_eq_false_iff_ne];exact n89
 have e92:(c==92)=false:=by rw[beq_eq_false_iff_ne];exact n92
 have e93:(c==93)=false:=by rw[beq_eq_false_iff_ne];exact n93
 have e94:(c==94)=false:=by rw[beq_eq_false_iff_ne];exact n94
 have e95:(c==95)=false:=by rw[beq_eq_false_iff_ne];exact n95
 clear n16 n17 n42 n44 n81 n88 n89 n92 n93 n94 n95
 go_enter Tryz.func21,Tryz.ntmps21
 go_wp2
 go_region
 all_goals
  go_wp2
  go_returns
  refine⟨by rw[HX.out];rfl,?_⟩
  repeat(first|exact Below.refl _ _|(with_reducible refine Below.drew ?_)|(with_reducible refine below_last ?_ _))
theorem second_102_none(c:Int)(c0:0≤c)(c1:c<256)(hs:c≠46)(w:World):Calls Tryz.prog 21 #[.int .u8 102,.int .u8 c] w fun e w'=>e=.returned (secL (secondF 102 c))∧Below w.heap.size w w':=by
 have n46:=hs
 have HX:=Lib.hid (show secondF 102 c=(nilF,false)by unfold secondF;rw[if_neg (by decide),if_neg (by decide)];repeat(rw[if_neg (by omega)]))
 have a15:=and15 c c0 c1
 have w15:IntKind.i64.wrap (c%16)=c%16:=by rw[IntKind.wrap_i64];omega
 have e46:(c==46)=false:=by rw[beq_eq_false_iff_ne];exact n46
 clear n46 hs
 go_enter Tryz.func21,Tryz.ntmps21
 go_wp2
 go_region
 all_goals
  go_wp2
  go_returns
  refine⟨by rw[HX.out];rfl,?_⟩
  repeat(first|exact Below.refl _ _|(with_reducible refine Below.drew ?_)|(with_reducible refine below_last ?_ _))
theorem second_any(p c:Int)(hp:p=0∨p=242∨p=102)(c0:0≤c)(c1:c<256)(w:World):Calls Tryz.prog 21 #[.int .u8 p,.int .u8 c] w fun e w'=>e=.returned (secL (secondF p c))∧Below w.heap.size w w':=by
 rcases hp with rfl|rfl|rfl
 ·by_cases r1:64≤c∧c<80
  ·exact second_r64 c r1.1 r1.2 w
  by_cases r2:128≤c∧c<144
  ·exact second_r128 c r2.1 r2.2 w
  by_cases r3:144≤c∧c<160
  ·exact second_r144 c r3.1 r3.2 w
  by_cases n175:c=175
  ·subst n175;exact second_0_175 w
  by_cases n182:c=182
  ·subst n182;exact second_0_182 w
  by_cases n183:c=183
  ·subst n183;exact second_0_183 w
  by_cases n190:c=190
  ·subst n190;exact second_0_190 w
  by_cases n191:c=191
  ·subst n191;exact second_0_191 w
  exact second_0_none c c0 c1 ⟨r1,r2,r3,n175,n182,n183,n190,n191⟩ w
 ·skip
  by_cases n16:c=16
  ·subst n16;exact second_242_16 w
  by_cases n17:c=17
  ·subst n17;exact second_242_17 w
  by_cases n42:c=42
  ·subst n42;exact second_242_42 w
  by_cases n44:c=44
  ·subst n44;exact second_242_44 w
  by_cases n81:c=81
  ·subst n81;exact second_242_81 w
  by_cases n88:c=88
  ·subst n88;exact second_242_88 w
  by_cases n89:c=89
  ·subst n89;exact second_242_89 w
  by_cases n92:c=92
  ·subst n92;exact second_242_92 w
  by_cases n93:c=93
  ·subst n93;exact second_242_93 w
  by_cases n94:c=94
  ·subst n94;exact second_242_94 w
  by_cases n95:c=95
  ·subst n95;exact second_242_95 w
  exact second_242_none c c0 c1 ⟨n16,n17,n42,n44,n81,n88,n89,n92,n93,n94,n95⟩ w
 ·by_cases n46:c=46
  ·subst n46;exact second_102_46 w
  ·exact second_102_none c c0 c1 n46 w
def lets1(c:UInt8):Bool:=c==69 || c==71 || c==103 || c==101 || c==88 || c==89
def lets2(c:UInt8):Bool:=c==71 || c==69 || c==76 || c==66 || c==73 || c==98
def lets3(c:UInt8):Bool:=c==114 || c==97 || c==73 || c==98 || c==109
def lets4(c:UInt8):Bool:=c==105 || c==119 || c==69 || c==49 || c==99 || c==98
def howOk(l:List UInt8):Bool:=decide (l.length≤100)&&(l.all lets1 || l.all lets2 || l.all lets3 || l.all lets4)
theorem rmade_ok(i:Ins)(f:Frm)(rm:Opd)(reg:Int)(v:Value)(L:Nat)(bs:Nat→Int)(k0:Nat)(hb:∀i,0≤bs i∧bs i<256)(w:World)(hs:Slc .u8 w v L bs)(hL:L≤1099511627776)(hk0:k0≤L)(hh:howOk f.how=true):
  Calls Tryz.prog 26 #[insV i,frmV f,opV rm,.int .i64 reg,v,.int .i64 (k0:Int)] w fun e w'=>e=.returned (insR (madeF i f rm reg L bs k0))∧Below w.heap.size w w':=by
 unfold howOk at hh
 simp only[Bool.and_eq_true,Bool.or_eq_true,decide_eq_true_eq,List.all_eq_true]at hh
 obtain⟨hl,((h|h)|h)|h⟩:=hh
 ·exact rmade_1 i f rm reg v L bs k0 hb w hs hL hk0 hl (fun c hc=>by have:=h c hc;simp[lets1]at this;(rcases this with((((h|h)|h)|h)|h)|h<;>simp[h]))
 ·exact rmade_2 i f rm reg v L bs k0 hb w hs hL hk0 hl (fun c hc=>by have:=h c hc;simp[lets2]at this;(rcases this with((((h|h)|h)|h)|h)|h<;>simp[h]))
 ·exact rmade_3 i f rm reg v L bs k0 hb w hs hL hk0 hl (fun c hc=>by have:=h c hc;simp[lets3]at this;(rcases this with((((h|h)|h)|h)|h)|h<;>simp[h]))
 ·exact rmade_4 i f rm reg v L bs k0 hb w hs hL hk0 hl (fun c hc=>by have:=h c hc;simp[lets4]at this;(rcases this with((((h|h)|h)|h)|h)|h<;>simp[h]))
def frmL(g:Frm):List Value:=[.int .i64 g.op,.int .i64 g.cond,.int .i64 g.size,.string ⟨g.how.toArray⟩,.int .i64 g.c]
theorem info_frm:(Tryz.prog.info? 63).map (·.size)=some 5:=by kernel_rfl
theorem frm_one(g:Frm):(frmL g).toArray.all (·.oneCell')=true:=by simp[frmL,Value.oneCell']
structure FInv (w:World) (g:Frm) (u:World):Prop where
 below:Below w.heap.size w u
 frm:u.rangeAt (w.heap.size+1) 0 (frmL g)
 res:u.there w.heap.size 0 18
theorem FInv.lt{w:World}{g:Frm}{u:World}(h:FInv w g u):w.heap.size+1<u.heap.size:=cell_lt (h.frm 0 _ rfl)
theorem FInv.ext{w:World}{g:Frm}{u u':World}(h:FInv w g u)(hb:Below u.heap.size u u'):FInv w g u':=
 ⟨h.below.trans (hb.mono h.below.size),range_but (F:=fun _=>False) (But.of_below hb) (fun h=>h) h.frm,there_but (F:=fun _=>False) (But.of_below hb) (fun h=>h) (by have:=h.lt;omega) h.res⟩
theorem FInv.drawn{w:World}{g:Frm}{u:World}(h:FInv w g u):FInv w g { u with drawn:=u.drawn+1 }:=⟨h.below.drew,h.frm,h.res⟩
theorem FInv.put{w:World}{g:Frm}{u:World}(h:FInv w g u)(k o:Nat)(hk:w.heap.size+1<k)(vs:List Value):FInv w g (u.setCells k o vs):=
 ⟨below_setCells (by omega) _ _ _ h.below,World.rangeAt_setCells_apart h.frm k o vs (.inl (by omega)),World.there_setCells h.res _ _ _⟩
theorem frm_cells{w:World}{g:Frm}{u:World}(h:FInv w g u):u.cell? ⟨w.heap.size+1,0,none⟩=some (.int .i64 g.op)∧u.cell? ⟨w.heap.size+1,1,none⟩=some (.int .i64 g.cond)∧u.cell? ⟨w.heap.size+1,2,none⟩=some (.int .i64 g.size)∧u.cell? ⟨w.heap.size+1,3,none⟩=some (.string ⟨g.how.toArray⟩):=
 ⟨h.frm 0 _ rfl,h.frm 1 _ rfl,h.frm 2 _ rfl,h.frm 3 _ rfl⟩
def SG(C:List Value)(u u':World):Prop:=u.heap.size≤u'.heap.size∧(∀k n,u.there k 0 n→u'.there k 0 n)∧(∀k,u.rangeAt k 0 C→0<C.length→u'.rangeAt k 0 C)
theorem sg_refl{C:List Value}(u:World):SG C u u:=⟨Nat.le_refl _,fun _ _ h=>h,fun _ h _=>h⟩
theorem there_lt'{u:World}{k n:Nat}(h:u.there k 0 n)(hn:0<n):k<u.heap.size:=by
 obtain⟨x,hx⟩:=Option.isSome_iff_exists.1 (h 0 hn).1
 exact cell_lt hx
theorem sg_below{C:List Value}{u u':World}(hb:Below u.heap.size u u'):SG C u u':=
 ⟨hb.size,fun k n h=>by
  by_cases hn:0<n
  ·exact there_but (F:=fun _=>False) (But.of_below hb) (fun h=>h) (there_lt' h hn) h
  ·exact fun j hj=>by omega,fun k h _=>range_but (F:=fun _=>False) (But.of_below hb) (fun h=>h) h⟩
theorem sg_put{C:List Value}{u:World}{k:Nat}(ht:u.there k 0 C.length):SG C u (u.setCells k 0 C):=by
 refine⟨by rw[setCells_size];exact Nat.le_refl _,fun k' n h=>World.there_setCells h _ _ _,fun k' h _=>?_⟩
 by_cases hk:k'=k
 ·subst hk;exact World.rangeAt_setCells_same u k' 0 C ht
 ·exact World.rangeAt_setCells_apart h k 0 C (.inl hk)
theorem ini0(w:World):Below w.heap.size w ((w.alloc (.cells zeroA 34)).alloc (.cells #[.int .i64 0,.int .i64 0,.int .i64 0,.string ⟨#[]⟩,.int .i64 0] 63))∧((w.alloc (.cells zeroA 34)).alloc (.cells #[.int .i64 0,.int .i64 0,.int .i64 0,.string ⟨#[]⟩,.int .i64 0] 63)).heap.size=w.heap.size+2∧((w.alloc (.cells zeroA 34)).alloc (.cells #[.int .i64 0,.int .i64 0,.int .i64 0,.string ⟨#[]⟩,.int .i64 0] 63)).there w.heap.size 0 18∧((w.alloc (.cells zeroA 34)).alloc (.cells #[.int .i64 0,.int .i64 0,.int .i64 0,.string ⟨#[]⟩,.int .i64 0] 63)).there (w.heap.size+1) 0 5:=
 ⟨below_last (below_last (Below.refl _ w) _) _,by simp,there_alloc _ (by simp) (there_alloc_new w _ _ _ (by decide)),by have:=there_alloc_new (w.alloc (.cells zeroA 34)) #[.int .i64 0,.int .i64 0,.int .i64 0,.string ⟨#[]⟩,.int .i64 0] 63 5 (by decide);simpa using this⟩
def i0(g:Frm)(rep:Bool):Ins:=⟨g.op,g.cond,g.size,noneO,noneO,0,rep,0⟩
def SV(w:World)(g:Frm)(rep:Bool):Nat→Value→Value→World→Prop
 |0,v,_,_=>v=.pointer (some ⟨w.heap.size+1,0,none⟩)
 |1,v,_,_=>v=.int .i64 g.op
 |2,v,_,_=>v=.pointer (some ⟨w.heap.size+1,1,none⟩)
 |3,v,_,_=>v=.int .i64 g.cond
 |4,v,_,_=>v=.pointer (some ⟨w.heap.size+1,2,none⟩)
 |5,v,_,_=>v=.int .i64 g.size
 |6,v,_,_=>v=opV noneO
 |7,v,_,_=>v=opV noneO
 |8,v,_,_=>v=.bool rep
 |9,v,_,_=>v=.agg (insL (i0 g rep)).toArray
 |10,v,_,u=>∃k,v=.pointer (some ⟨k,0,none⟩)∧w.heap.size+1<k∧u.there k 0 18
 |11,_,x,u=>∃k,x=.pointer (some ⟨k,0,none⟩)∧w.heap.size+1<k∧u.rangeAt k 0 (insL (i0 g rep))
 |_,_,_,_=>True
theorem sv_stays{w:World}{g:Frm}{rep:Bool}(i:Nat)(v x:Value)(u:World)(_:Unit)(u':World)(_:Unit)(h:SV w g rep i v x u)(hg:SG (insL (i0 g rep)) u u'):SV w g rep i v x u':=by
 unfold SV at h ⊢
 split at h
 all_goals first
  |exact h
  |(obtain⟨k,h1,h2,h3⟩:=h;exact⟨k,h1,h2,hg.2.1 k 18 h3⟩)
  |(obtain⟨k,h1,h2,h3⟩:=h;exact⟨k,h1,h2,hg.2.2 k h3 (show 0<18 by decide)⟩)
theorem store_frm{ops:Array Oper}{rest:List Oper}{op:Oper}{a:Act}{w:World}{Q:Exit→Act→World→Prop}(hgd:op.guard=none)(x y:Operand)(ho:op.op=.store 63 x y)
  (R:Nat) (hx:a.eval x=.pointer (some ⟨R,0,none⟩)) (q:Frm) (hy:a.eval y=frmV q) (ht:w.there R 0 5)
  (hK:∀Y,Y=w.setCells R 0 (frmL q)→wpList Tryz.prog ops Q rest (a.put op.dst undef) Y):wpList Tryz.prog ops Q (op :: rest) a w:=
 store_mid hgd _ x y ho R 0 hx (frmL q) hy info_frm (frm_one q) ht hK
theorem behF_bd(L:Nat)(bs:Nat→Int)(k:Nat):-1≤behF L bs k∧behF L bs k<8:=by unfold behF;split<;>omega
theorem below_undrewN{W u:World}{nq:Nat}(h:Below (W.drewN nq).heap.size (W.drewN nq) u):Below W.heap.size W u:=by
 rw[drewN_size]at h
 exact(below_drN (Below.refl _ W) nq).trans h
end Go.Proofs.YtmdncgfheeijaaaGreat
