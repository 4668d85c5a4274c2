import Derived.Test.YtgihiddiceinhaaDoorKNR
import Derived.Test.YtgihiddiceinhaaDoorKNR3
import Derived.Test.YtgihiddiceinhaaDoorKNRef10i1
import Derived.Test.YtgihiddiceinhaaDoorKNT
import Derived.Test.YtgihiddiceinhaaDoorKNi23
namespace Go.Proofs.YtgihiddiceinhaaDoor
open Go.ChangeShapes Go.WideShapes Go.ChangeAt Go.RowKit
theorem first_any (c reg : Int) (m3 : Bool) (c0 : 0 ≤ c) (c1 : c < 256) (r0 : -1 ≤ reg) (r1 : reg < 8) (w : World) : Calls Tryd.prog 23 #[.int .u8 c, .int .i64 reg, .bool m3] w fun e w' => e = .returned (fstL (firstF c reg m3)) ∧ Below w.heap.size w w' := by
  by_cases l0 : c < 64 ∧ c % 8 < 6
  · exact first_low c c0 l0.1 l0.2 reg m3 w
  by_cases l64 : 64 ≤ c ∧ c < 72
  · exact first_r64 c l64.1 l64.2 reg m3 w
  by_cases l72 : 72 ≤ c ∧ c < 80
  · exact first_r72 c l72.1 l72.2 reg m3 w
  by_cases l80 : 80 ≤ c ∧ c < 88
  · exact first_r80 c l80.1 l80.2 reg m3 w
  by_cases l88 : 88 ≤ c ∧ c < 96
  · exact first_r88 c l88.1 l88.2 reg m3 w
  by_cases l112 : 112 ≤ c ∧ c < 128
  · exact first_jcc c l112.1 l112.2 reg m3 w
  by_cases l145 : 145 ≤ c ∧ c < 152
  · exact first_r145 c l145.1 l145.2 reg m3 w
  by_cases l176 : 176 ≤ c ∧ c < 184
  · exact first_r176 c l176.1 l176.2 reg m3 w
  by_cases l184 : 184 ≤ c ∧ c < 192
  · exact first_r184 c l184.1 l184.2 reg m3 w
  by_cases n104 : c = 104
  · subst n104
    exact first_h1 104 (by decide) reg m3 w
  by_cases n106 : c = 106
  · subst n106
    exact first_h1 106 (by decide) reg m3 w
  by_cases n105 : c = 105
  · subst n105
    exact first_105 reg m3 w
  by_cases n107 : c = 107
  · subst n107
    exact first_107 reg m3 w
  by_cases n128 : c = 128
  · subst n128
    by_cases h : reg < 0
    · exact first_128n reg m3 h w
    · exact first_128y reg m3 (by omega) r1 w
  by_cases n129 : c = 129
  · subst n129
    by_cases h : reg < 0
    · exact first_129n reg m3 h w
    · exact first_129y reg m3 (by omega) r1 w
  by_cases n131 : c = 131
  · subst n131
    by_cases h : reg < 0
    · exact first_131n reg m3 h w
    · exact first_131y reg m3 (by omega) r1 w
  by_cases n132 : c = 132
  · subst n132
    exact first_h1 132 (by decide) reg m3 w
  by_cases n133 : c = 133
  · subst n133
    exact first_h1 133 (by decide) reg m3 w
  by_cases n134 : c = 134
  · subst n134
    exact first_h1 134 (by decide) reg m3 w
  by_cases n135 : c = 135
  · subst n135
    exact first_h1 135 (by decide) reg m3 w
  by_cases n136 : c = 136
  · subst n136
    exact first_h1 136 (by decide) reg m3 w
  by_cases n137 : c = 137
  · subst n137
    exact first_h1 137 (by decide) reg m3 w
  by_cases n138 : c = 138
  · subst n138
    exact first_h1 138 (by decide) reg m3 w
  by_cases n139 : c = 139
  · subst n139
    exact first_h1 139 (by decide) reg m3 w
  by_cases n141 : c = 141
  · subst n141
    by_cases h : reg < 0
    · exact first_141n reg m3 h w
    · exact first_141y reg m3 (by omega) w
  by_cases n143 : c = 143
  · subst n143
    exact first_143 reg m3 r0 r1 w
  by_cases n144 : c = 144
  · subst n144
    exact first_h2 144 (by decide) reg m3 w
  by_cases n152 : c = 152
  · subst n152
    exact first_h2 152 (by decide) reg m3 w
  by_cases n153 : c = 153
  · subst n153
    exact first_h2 153 (by decide) reg m3 w
  by_cases n160 : c = 160
  · subst n160
    exact first_h2 160 (by decide) reg m3 w
  by_cases n161 : c = 161
  · subst n161
    exact first_h2 161 (by decide) reg m3 w
  by_cases n162 : c = 162
  · subst n162
    exact first_h2 162 (by decide) reg m3 w
  by_cases n163 : c = 163
  · subst n163
    exact first_h2 163 (by decide) reg m3 w
  by_cases n164 : c = 164
  · subst n164
    exact first_h2 164 (by decide) reg m3 w
  by_cases n165 : c = 165
  · subst n165
    exact first_h2 165 (by decide) reg m3 w
  by_cases n168 : c = 168
  · subst n168
    exact first_h2 168 (by decide) reg m3 w
  by_cases n169 : c = 169
  · subst n169
    exact first_h3 169 (by decide) reg m3 w
  by_cases n170 : c = 170
  · subst n170
    exact first_h3 170 (by decide) reg m3 w
  by_cases n171 : c = 171
  · subst n171
    exact first_h3 171 (by decide) reg m3 w
  by_cases n172 : c = 172
  · subst n172
    exact first_h3 172 (by decide) reg m3 w
  by_cases n173 : c = 173
  · subst n173
    exact first_h3 173 (by decide) reg m3 w
  by_cases n193 : c = 193
  · subst n193
    exact first_193 reg m3 r0 r1 w
  by_cases n209 : c = 209
  · subst n209
    exact first_209 reg m3 r0 r1 w
  by_cases n211 : c = 211
  · subst n211
    exact first_211 reg m3 r0 r1 w
  by_cases n194 : c = 194
  · subst n194
    exact first_h3 194 (by decide) reg m3 w
  by_cases n195 : c = 195
  · subst n195
    exact first_h3 195 (by decide) reg m3 w
  by_cases n198 : c = 198
  · subst n198
    exact first_198 reg m3 r0 r1 w
  by_cases n199 : c = 199
  · subst n199
    exact first_199 reg m3 r0 r1 w
  by_cases n201 : c = 201
  · subst n201
    exact first_h3 201 (by decide) reg m3 w
  by_cases n204 : c = 204
  · subst n204
    exact first_h3 204 (by decide) reg m3 w
  by_cases n244 : c = 244
  · subst n244
    exact first_h4 244 (by decide) reg m3 w
  by_cases n232 : c = 232
  · subst n232
    exact first_h3 232 (by decide) reg m3 w
  by_cases n233 : c = 233
  · subst n233
    exact first_h4 233 (by decide) reg m3 w
  by_cases n235 : c = 235
  · subst n235
    exact first_h4 235 (by decide) reg m3 w
  by_cases n245 : c = 245
  · subst n245
    exact first_h4 245 (by decide) reg m3 w
  by_cases n248 : c = 248
  · subst n248
    exact first_h4 248 (by decide) reg m3 w
  by_cases n249 : c = 249
  · subst n249
    exact first_h4 249 (by decide) reg m3 w
  by_cases n252 : c = 252
  · subst n252
    exact first_h4 252 (by decide) reg m3 w
  by_cases n253 : c = 253
  · subst n253
    exact first_h4 253 (by decide) reg m3 w
  by_cases n246 : c = 246
  · subst n246
    by_cases h : reg = 0
    · subst h; exact first_246z m3 w
    · exact first_246b reg m3 r0 r1 h w
  by_cases n247 : c = 247
  · subst n247
    by_cases h : reg = 0
    · subst h; exact first_247z m3 w
    · exact first_247b reg m3 r0 r1 h w
  by_cases n254 : c = 254
  · subst n254
    exact first_254 reg m3 r0 r1 w
  by_cases n255 : c = 255
  · subst n255
    exact first_255 reg m3 r0 r1 w
  by_cases z0 : 0 ≤ c ∧ c < 64
  · exact first_n0 c z0.1 z0.2 (by omega) ⟨n104, n106, n105, n107, n128, n129, n131, n132, n133, n134, n135, n136, n137, n138, n139, n141, n143, n144, n152, n153, n160, n161, n162, n163, n164, n165, n168, n169, n170, n171, n172, n173, n193, n209, n211, n194, n195, n198, n199, n201, n204, n244, n232, n233, n235, n245, n248, n249, n252, n253, n246, n247, n254, n255⟩ reg m3 w
  by_cases z96 : 96 ≤ c ∧ c < 112
  · exact first_n96 c z96.1 z96.2 ⟨n104, n106, n105, n107, n128, n129, n131, n132, n133, n134, n135, n136, n137, n138, n139, n141, n143, n144, n152, n153, n160, n161, n162, n163, n164, n165, n168, n169, n170, n171, n172, n173, n193, n209, n211, n194, n195, n198, n199, n201, n204, n244, n232, n233, n235, n245, n248, n249, n252, n253, n246, n247, n254, n255⟩ reg m3 w
  by_cases z128 : 128 ≤ c ∧ c < 145
  · exact first_n128 c z128.1 z128.2 ⟨n104, n106, n105, n107, n128, n129, n131, n132, n133, n134, n135, n136, n137, n138, n139, n141, n143, n144, n152, n153, n160, n161, n162, n163, n164, n165, n168, n169, n170, n171, n172, n173, n193, n209, n211, n194, n195, n198, n199, n201, n204, n244, n232, n233, n235, n245, n248, n249, n252, n253, n246, n247, n254, n255⟩ reg m3 w
  by_cases z152 : 152 ≤ c ∧ c < 176
  · exact first_n152 c z152.1 z152.2 ⟨n104, n106, n105, n107, n128, n129, n131, n132, n133, n134, n135, n136, n137, n138, n139, n141, n143, n144, n152, n153, n160, n161, n162, n163, n164, n165, n168, n169, n170, n171, n172, n173, n193, n209, n211, n194, n195, n198, n199, n201, n204, n244, n232, n233, n235, n245, n248, n249, n252, n253, n246, n247, n254, n255⟩ reg m3 w
  by_cases z192 : 192 ≤ c ∧ c < 256
  · exact first_n192 c z192.1 z192.2 ⟨n104, n106, n105, n107, n128, n129, n131, n132, n133, n134, n135, n136, n137, n138, n139, n141, n143, n144, n152, n153, n160, n161, n162, n163, n164, n165, n168, n169, n170, n171, n172, n173, n193, n209, n211, n194, n195, n198, n199, n201, n204, n244, n232, n233, n235, n245, n248, n249, n252, n253, n246, n247, n254, n255⟩ reg m3 w
  omega
end Go.Proofs.YtgihiddiceinhaaDoor
