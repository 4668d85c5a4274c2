import Derived.Laws.EntriesVeiled
import Derived.Test.YtlnahkkemjgjbaaGreatKNH
namespace Go.Proofs.YtlnahkkemjgjbaaGreat
open Go.ChangeShapes Go.WideShapes Go.ChangeAt Go.RowKit
section
class BC (w u:World):Prop where
  h:Below w.heap.size w u
instance {w:World}:BC w w:=⟨Below.refl _ _⟩
instance {w u:World} {o:Obj} [k:BC w u]:BC w (u.alloc o):=⟨below_last k.h o⟩
def lfL (f:LF):List Value:=[.int .i64 f.op,.int .i64 f.cond,.int .i64 f.size,partO f.a,partO f.b,partO f.c,.bool f.rep]
def lfV (f:LF):Value:=.agg (lfL f).toArray
theorem dwidth_any (c:Int) (h0:0 ≤ c) (h1:c < 256) (w:World):Calls Tryz.prog 73 #[.int .i64 c] w fun e w'=>e=.returned (.int .i64 (wdL c))∧w=w':=by
  have a1:bits .and .i64 c 1=c % 2:=and_low_i c 1 h0 h1 (by decide)
  by_cases h:c % 2=0
  · have hV:=Lib.hid (show wdL c=1 by unfold wdL;rw [if_pos h])
    go_enter Tryz.func73,Tryz.ntmps73
    go_wp2
    go_ret
    exact ⟨by rw [hV.out];rfl,rfl⟩
  · have hV:=Lib.hid (show wdL c=4 by unfold wdL;rw [if_neg h])
    have e1:(c % 2 == 0)=false:=by simpa using h
    clear h
    go_enter Tryz.func73,Tryz.ntmps73
    go_wp2
    go_ret
    exact ⟨by rw [hV.out];rfl,rfl⟩
theorem dcond_any (c:Int) (h0:0 ≤ c) (h1:c < 256) (w:World):Calls Tryz.prog 65 #[.int .i64 c] w fun e w'=>e=.returned (.int .i64 (c % 16))∧w=w':=by
  have a1:bits .and .i64 c 15=c % 16:=and_low_i c 4 h0 h1 (by decide)
  go_enter Tryz.func65,Tryz.ntmps65
  go_wp2
  go_ret
  exact ⟨rfl,rfl⟩
theorem info_lf:(Tryz.prog.info? 70).map (·.size)=some 7:=by kernel_rfl
theorem part_one (p:Option Prt):(partO p).oneCell'=true:=by
  cases p with
  | none=>rfl
  | some p=>cases p <;> rfl
theorem store_lf {ops:Array Oper} {rest:List Oper} {op:Oper} {a:Act} {w:World} {Q:Exit→Act→World→Prop} (hgd:op.guard=none) (x y:Operand) (ho:op.op=.store 70 x y)
    (R:Nat) (hx:a.eval x=.pointer (some ⟨R,0,none⟩)) (q:LF) (hy:a.eval y=lfV q) (ht:w.there R 0 7)
    (hK:∀ Y,Y=w.setCells R 0 (lfL q)→(loadVar 70 ⟨R,0,none⟩).run Tryz.prog Y=.ok (lfV q) Y→wpList Tryz.prog ops Q rest (a.put op.dst undef) Y):wpList Tryz.prog ops Q (op :: rest) a w :=
  store_row hgd _ x y ho R hx (lfL q) hy _ Tryz.underlying70 rfl info_lf (by simp [lfL,Value.oneCell'];exact ⟨part_one _,part_one _,part_one _⟩) ht hK
theorem there_below {w u:World} {R n:Nat} (h:Below w.heap.size w u) (hR:R < w.heap.size) (ht:w.there R 0 n):u.there R 0 n:=there_but (F:=fun _=>False) (But.of_below h) (fun h=>h) hR ht
theorem there_last {w u:World} {C:Array Value} {T:TypeId} {n:Nat} (h:Below (w.alloc (.cells C T)).heap.size (w.alloc (.cells C T)) u) (hn:n ≤ C.size):u.there w.heap.size 0 n:=there_below h (by simp) (there_alloc_new w C T n hn)
theorem below_first {w u:World} {o:Obj} (h:Below (w.alloc o).heap.size (w.alloc o) u):Below w.heap.size w u:=(below_last (Below.refl _ w) o).trans (h.mono (by simp))
attribute [local go_sem] isSome_setCell
set_option maxRecDepth 100000
set_option maxHeartbeats 1000000
theorem dbare_144 (w:World):Calls Tryz.prog 71 #[.int .i64 144] w fun e w'=>e=.returned (lfV (bareL 144))∧Below w.heap.size w w':=by
  go_enter Tryz.func71,Tryz.ntmps71
  go_wp2_with (first | (go_at_call 73;(with_reducible refine (dwidth_any _ (by first | decide | omega) (by first | decide | omega) _).mono ?_);rintro e w' ⟨rfl,rfl⟩))
  go_returns
  exact ⟨rfl,BC.h⟩
theorem dbare_152 (w:World):Calls Tryz.prog 71 #[.int .i64 152] w fun e w'=>e=.returned (lfV (bareL 152))∧Below w.heap.size w w':=by
  go_enter Tryz.func71,Tryz.ntmps71
  go_wp2_with (first | (go_at_call 73;(with_reducible refine (dwidth_any _ (by first | decide | omega) (by first | decide | omega) _).mono ?_);rintro e w' ⟨rfl,rfl⟩))
  go_returns
  exact ⟨rfl,BC.h⟩
theorem dbare_153 (w:World):Calls Tryz.prog 71 #[.int .i64 153] w fun e w'=>e=.returned (lfV (bareL 153))∧Below w.heap.size w w':=by
  go_enter Tryz.func71,Tryz.ntmps71
  go_wp2_with (first | (go_at_call 73;(with_reducible refine (dwidth_any _ (by first | decide | omega) (by first | decide | omega) _).mono ?_);rintro e w' ⟨rfl,rfl⟩))
  go_returns
  exact ⟨rfl,BC.h⟩
theorem dbare_164 (w:World):Calls Tryz.prog 71 #[.int .i64 164] w fun e w'=>e=.returned (lfV (bareL 164))∧Below w.heap.size w w':=by
  go_enter Tryz.func71,Tryz.ntmps71
  go_wp2_with (first | (go_at_call 73;(with_reducible refine (dwidth_any _ (by first | decide | omega) (by first | decide | omega) _).mono ?_);rintro e w' ⟨rfl,rfl⟩))
  go_returns
  exact ⟨rfl,BC.h⟩
theorem dbare_165 (w:World):Calls Tryz.prog 71 #[.int .i64 165] w fun e w'=>e=.returned (lfV (bareL 165))∧Below w.heap.size w w':=by
  go_enter Tryz.func71,Tryz.ntmps71
  go_wp2_with (first | (go_at_call 73;(with_reducible refine (dwidth_any _ (by first | decide | omega) (by first | decide | omega) _).mono ?_);rintro e w' ⟨rfl,rfl⟩))
  go_returns
  exact ⟨rfl,BC.h⟩
theorem dbare_170 (w:World):Calls Tryz.prog 71 #[.int .i64 170] w fun e w'=>e=.returned (lfV (bareL 170))∧Below w.heap.size w w':=by
  go_enter Tryz.func71,Tryz.ntmps71
  go_wp2_with (first | (go_at_call 73;(with_reducible refine (dwidth_any _ (by first | decide | omega) (by first | decide | omega) _).mono ?_);rintro e w' ⟨rfl,rfl⟩))
  go_returns
  exact ⟨rfl,BC.h⟩
theorem dbare_171 (w:World):Calls Tryz.prog 71 #[.int .i64 171] w fun e w'=>e=.returned (lfV (bareL 171))∧Below w.heap.size w w':=by
  go_enter Tryz.func71,Tryz.ntmps71
  go_wp2_with (first | (go_at_call 73;(with_reducible refine (dwidth_any _ (by first | decide | omega) (by first | decide | omega) _).mono ?_);rintro e w' ⟨rfl,rfl⟩))
  go_returns
  exact ⟨rfl,BC.h⟩
theorem dbare_172 (w:World):Calls Tryz.prog 71 #[.int .i64 172] w fun e w'=>e=.returned (lfV (bareL 172))∧Below w.heap.size w w':=by
  go_enter Tryz.func71,Tryz.ntmps71
  go_wp2_with (first | (go_at_call 73;(with_reducible refine (dwidth_any _ (by first | decide | omega) (by first | decide | omega) _).mono ?_);rintro e w' ⟨rfl,rfl⟩))
  go_returns
  exact ⟨rfl,BC.h⟩
theorem dbare_173 (w:World):Calls Tryz.prog 71 #[.int .i64 173] w fun e w'=>e=.returned (lfV (bareL 173))∧Below w.heap.size w w':=by
  go_enter Tryz.func71,Tryz.ntmps71
  go_wp2_with (first | (go_at_call 73;(with_reducible refine (dwidth_any _ (by first | decide | omega) (by first | decide | omega) _).mono ?_);rintro e w' ⟨rfl,rfl⟩))
  go_returns
  exact ⟨rfl,BC.h⟩
theorem dbare_195 (w:World):Calls Tryz.prog 71 #[.int .i64 195] w fun e w'=>e=.returned (lfV (bareL 195))∧Below w.heap.size w w':=by
  go_enter Tryz.func71,Tryz.ntmps71
  go_wp2_with (first | (go_at_call 73;(with_reducible refine (dwidth_any _ (by first | decide | omega) (by first | decide | omega) _).mono ?_);rintro e w' ⟨rfl,rfl⟩))
  go_returns
  exact ⟨rfl,BC.h⟩
theorem dbare_201 (w:World):Calls Tryz.prog 71 #[.int .i64 201] w fun e w'=>e=.returned (lfV (bareL 201))∧Below w.heap.size w w':=by
  go_enter Tryz.func71,Tryz.ntmps71
  go_wp2_with (first | (go_at_call 73;(with_reducible refine (dwidth_any _ (by first | decide | omega) (by first | decide | omega) _).mono ?_);rintro e w' ⟨rfl,rfl⟩))
  go_returns
  exact ⟨rfl,BC.h⟩
theorem dbare_204 (w:World):Calls Tryz.prog 71 #[.int .i64 204] w fun e w'=>e=.returned (lfV (bareL 204))∧Below w.heap.size w w':=by
  go_enter Tryz.func71,Tryz.ntmps71
  go_wp2_with (first | (go_at_call 73;(with_reducible refine (dwidth_any _ (by first | decide | omega) (by first | decide | omega) _).mono ?_);rintro e w' ⟨rfl,rfl⟩))
  go_returns
  exact ⟨rfl,BC.h⟩
theorem dbare_244 (w:World):Calls Tryz.prog 71 #[.int .i64 244] w fun e w'=>e=.returned (lfV (bareL 244))∧Below w.heap.size w w':=by
  go_enter Tryz.func71,Tryz.ntmps71
  go_wp2_with (first | (go_at_call 73;(with_reducible refine (dwidth_any _ (by first | decide | omega) (by first | decide | omega) _).mono ?_);rintro e w' ⟨rfl,rfl⟩))
  go_returns
  exact ⟨rfl,BC.h⟩
theorem dbare_245 (w:World):Calls Tryz.prog 71 #[.int .i64 245] w fun e w'=>e=.returned (lfV (bareL 245))∧Below w.heap.size w w':=by
  go_enter Tryz.func71,Tryz.ntmps71
  go_wp2_with (first | (go_at_call 73;(with_reducible refine (dwidth_any _ (by first | decide | omega) (by first | decide | omega) _).mono ?_);rintro e w' ⟨rfl,rfl⟩))
  go_returns
  exact ⟨rfl,BC.h⟩
theorem dbare_248 (w:World):Calls Tryz.prog 71 #[.int .i64 248] w fun e w'=>e=.returned (lfV (bareL 248))∧Below w.heap.size w w':=by
  go_enter Tryz.func71,Tryz.ntmps71
  go_wp2_with (first | (go_at_call 73;(with_reducible refine (dwidth_any _ (by first | decide | omega) (by first | decide | omega) _).mono ?_);rintro e w' ⟨rfl,rfl⟩))
  go_returns
  exact ⟨rfl,BC.h⟩
theorem dbare_249 (w:World):Calls Tryz.prog 71 #[.int .i64 249] w fun e w'=>e=.returned (lfV (bareL 249))∧Below w.heap.size w w':=by
  go_enter Tryz.func71,Tryz.ntmps71
  go_wp2_with (first | (go_at_call 73;(with_reducible refine (dwidth_any _ (by first | decide | omega) (by first | decide | omega) _).mono ?_);rintro e w' ⟨rfl,rfl⟩))
  go_returns
  exact ⟨rfl,BC.h⟩
theorem dbare_252 (w:World):Calls Tryz.prog 71 #[.int .i64 252] w fun e w'=>e=.returned (lfV (bareL 252))∧Below w.heap.size w w':=by
  go_enter Tryz.func71,Tryz.ntmps71
  go_wp2_with (first | (go_at_call 73;(with_reducible refine (dwidth_any _ (by first | decide | omega) (by first | decide | omega) _).mono ?_);rintro e w' ⟨rfl,rfl⟩))
  go_returns
  exact ⟨rfl,BC.h⟩
theorem dbare_253 (w:World):Calls Tryz.prog 71 #[.int .i64 253] w fun e w'=>e=.returned (lfV (bareL 253))∧Below w.heap.size w w':=by
  go_enter Tryz.func71,Tryz.ntmps71
  go_wp2_with (first | (go_at_call 73;(with_reducible refine (dwidth_any _ (by first | decide | omega) (by first | decide | omega) _).mono ?_);rintro e w' ⟨rfl,rfl⟩))
  go_returns
  exact ⟨rfl,BC.h⟩
theorem dbare_none (c:Int) (n144:c ≠ 144) (n152:c ≠ 152) (n153:c ≠ 153) (n164:c ≠ 164) (n165:c ≠ 165) (n170:c ≠ 170) (n171:c ≠ 171) (n172:c ≠ 172) (n173:c ≠ 173) (n195:c ≠ 195) (n201:c ≠ 201) (n204:c ≠ 204) (n244:c ≠ 244) (n245:c ≠ 245) (n248:c ≠ 248) (n249:c ≠ 249) (n252:c ≠ 252) (n253:c ≠ 253) (w:World):Calls Tryz.prog 71 #[.int .i64 c] w fun e w'=>e=.returned (lfV nilL)∧Below w.heap.size w w':=by
  have e144:(c == 144)=false:=by simpa using n144
  have e152:(c == 152)=false:=by simpa using n152
  have e153:(c == 153)=false:=by simpa using n153
  have e164:(c == 164)=false:=by simpa using n164
  have e165:(c == 165)=false:=by simpa using n165
  have e170:(c == 170)=false:=by simpa using n170
  have e171:(c == 171)=false:=by simpa using n171
  have e172:(c == 172)=false:=by simpa using n172
  have e173:(c == 173)=false:=by simpa using n173
  have e195:(c == 195)=false:=by simpa using n195
  have e201:(c == 201)=false:=by simpa using n201
  have e204:(c == 204)=false:=by simpa using n204
  have e244:(c == 244)=false:=by simpa using n244
  have e245:(c == 245)=false:=by simpa using n245
  have e248:(c == 248)=false:=by simpa using n248
  have e249:(c == 249)=false:=by simpa using n249
  have e252:(c == 252)=false:=by simpa using n252
  have e253:(c == 253)=false:=by simpa using n253
  clear n144 n152 n153 n164 n165 n170 n171 n172 n173 n195 n201 n204 n244 n245 n248 n249 n252 n253
  go_enter Tryz.func71,Tryz.ntmps71
  go_wp2
  go_returns
  exact ⟨rfl,BC.h⟩
set_option maxRecDepth 512
theorem dbare_any (c:Int) (w:World):Calls Tryz.prog 71 #[.int .i64 c] w fun e w'=>e=.returned (lfV (bareL c))∧Below w.heap.size w w':=by
  by_cases n144:c=144
  · subst n144;exact dbare_144 w
  by_cases n152:c=152
  · subst n152;exact dbare_152 w
  by_cases n153:c=153
  · subst n153;exact dbare_153 w
  by_cases n164:c=164
  · subst n164;exact dbare_164 w
  by_cases n165:c=165
  · subst n165;exact dbare_165 w
  by_cases n170:c=170
  · subst n170;exact dbare_170 w
  by_cases n171:c=171
  · subst n171;exact dbare_171 w
  by_cases n172:c=172
  · subst n172;exact dbare_172 w
  by_cases n173:c=173
  · subst n173;exact dbare_173 w
  by_cases n195:c=195
  · subst n195;exact dbare_195 w
  by_cases n201:c=201
  · subst n201;exact dbare_201 w
  by_cases n204:c=204
  · subst n204;exact dbare_204 w
  by_cases n244:c=244
  · subst n244;exact dbare_244 w
  by_cases n245:c=245
  · subst n245;exact dbare_245 w
  by_cases n248:c=248
  · subst n248;exact dbare_248 w
  by_cases n249:c=249
  · subst n249;exact dbare_249 w
  by_cases n252:c=252
  · subst n252;exact dbare_252 w
  by_cases n253:c=253
  · subst n253;exact dbare_253 w
  rw [show bareL c=nilL by unfold bareL;simp [n144,n152,n153,n164,n165,n170,n171,n172,n173,n195,n201,n204,n244,n245,n248,n249,n252,n253]]
  exact dbare_none c n144 n152 n153 n164 n165 n170 n171 n172 n173 n195 n201 n204 n244 n245 n248 n249 n252 n253 w
end
section
attribute [local go_sem] isSome_setCell
set_option maxRecDepth 100000
set_option maxHeartbeats 1000000
theorem dsingle_104 (w:World):Calls Tryz.prog 79 #[.int .i64 104] w fun e w'=>e=.returned (lfV (singleL 104))∧Below w.heap.size w w':=by
  go_enter Tryz.func79,Tryz.ntmps79
  go_wp2_with (first | (go_at_call 73;(with_reducible refine (dwidth_any _ (by first | decide | omega) (by first | decide | omega) _).mono ?_);rintro e w' ⟨rfl,rfl⟩))
  go_returns
  exact ⟨rfl,BC.h⟩
theorem dsingle_105 (w:World):Calls Tryz.prog 79 #[.int .i64 105] w fun e w'=>e=.returned (lfV (singleL 105))∧Below w.heap.size w w':=by
  go_enter Tryz.func79,Tryz.ntmps79
  go_wp2_with (first | (go_at_call 73;(with_reducible refine (dwidth_any _ (by first | decide | omega) (by first | decide | omega) _).mono ?_);rintro e w' ⟨rfl,rfl⟩))
  go_returns
  exact ⟨rfl,BC.h⟩
theorem dsingle_106 (w:World):Calls Tryz.prog 79 #[.int .i64 106] w fun e w'=>e=.returned (lfV (singleL 106))∧Below w.heap.size w w':=by
  go_enter Tryz.func79,Tryz.ntmps79
  go_wp2_with (first | (go_at_call 73;(with_reducible refine (dwidth_any _ (by first | decide | omega) (by first | decide | omega) _).mono ?_);rintro e w' ⟨rfl,rfl⟩))
  go_returns
  exact ⟨rfl,BC.h⟩
theorem dsingle_107 (w:World):Calls Tryz.prog 79 #[.int .i64 107] w fun e w'=>e=.returned (lfV (singleL 107))∧Below w.heap.size w w':=by
  go_enter Tryz.func79,Tryz.ntmps79
  go_wp2_with (first | (go_at_call 73;(with_reducible refine (dwidth_any _ (by first | decide | omega) (by first | decide | omega) _).mono ?_);rintro e w' ⟨rfl,rfl⟩))
  go_returns
  exact ⟨rfl,BC.h⟩
theorem dsingle_132 (w:World):Calls Tryz.prog 79 #[.int .i64 132] w fun e w'=>e=.returned (lfV (singleL 132))∧Below w.heap.size w w':=by
  go_enter Tryz.func79,Tryz.ntmps79
  go_wp2_with (first | (go_at_call 73;(with_reducible refine (dwidth_any _ (by first | decide | omega) (by first | decide | omega) _).mono ?_);rintro e w' ⟨rfl,rfl⟩))
  go_returns
  exact ⟨rfl,BC.h⟩
theorem dsingle_133 (w:World):Calls Tryz.prog 79 #[.int .i64 133] w fun e w'=>e=.returned (lfV (singleL 133))∧Below w.heap.size w w':=by
  go_enter Tryz.func79,Tryz.ntmps79
  go_wp2_with (first | (go_at_call 73;(with_reducible refine (dwidth_any _ (by first | decide | omega) (by first | decide | omega) _).mono ?_);rintro e w' ⟨rfl,rfl⟩))
  go_returns
  exact ⟨rfl,BC.h⟩
theorem dsingle_134 (w:World):Calls Tryz.prog 79 #[.int .i64 134] w fun e w'=>e=.returned (lfV (singleL 134))∧Below w.heap.size w w':=by
  go_enter Tryz.func79,Tryz.ntmps79
  go_wp2_with (first | (go_at_call 73;(with_reducible refine (dwidth_any _ (by first | decide | omega) (by first | decide | omega) _).mono ?_);rintro e w' ⟨rfl,rfl⟩))
  go_returns
  exact ⟨rfl,BC.h⟩
theorem dsingle_135 (w:World):Calls Tryz.prog 79 #[.int .i64 135] w fun e w'=>e=.returned (lfV (singleL 135))∧Below w.heap.size w w':=by
  go_enter Tryz.func79,Tryz.ntmps79
  go_wp2_with (first | (go_at_call 73;(with_reducible refine (dwidth_any _ (by first | decide | omega) (by first | decide | omega) _).mono ?_);rintro e w' ⟨rfl,rfl⟩))
  go_returns
  exact ⟨rfl,BC.h⟩
theorem dsingle_136 (w:World):Calls Tryz.prog 79 #[.int .i64 136] w fun e w'=>e=.returned (lfV (singleL 136))∧Below w.heap.size w w':=by
  go_enter Tryz.func79,Tryz.ntmps79
  go_wp2_with (first | (go_at_call 73;(with_reducible refine (dwidth_any _ (by first | decide | omega) (by first | decide | omega) _).mono ?_);rintro e w' ⟨rfl,rfl⟩))
  go_returns
  exact ⟨rfl,BC.h⟩
theorem dsingle_137 (w:World):Calls Tryz.prog 79 #[.int .i64 137] w fun e w'=>e=.returned (lfV (singleL 137))∧Below w.heap.size w w':=by
  go_enter Tryz.func79,Tryz.ntmps79
  go_wp2_with (first | (go_at_call 73;(with_reducible refine (dwidth_any _ (by first | decide | omega) (by first | decide | omega) _).mono ?_);rintro e w' ⟨rfl,rfl⟩))
  go_returns
  exact ⟨rfl,BC.h⟩
theorem dsingle_138 (w:World):Calls Tryz.prog 79 #[.int .i64 138] w fun e w'=>e=.returned (lfV (singleL 138))∧Below w.heap.size w w':=by
  go_enter Tryz.func79,Tryz.ntmps79
  go_wp2_with (first | (go_at_call 73;(with_reducible refine (dwidth_any _ (by first | decide | omega) (by first | decide | omega) _).mono ?_);rintro e w' ⟨rfl,rfl⟩))
  go_returns
  exact ⟨rfl,BC.h⟩
theorem dsingle_139 (w:World):Calls Tryz.prog 79 #[.int .i64 139] w fun e w'=>e=.returned (lfV (singleL 139))∧Below w.heap.size w w':=by
  go_enter Tryz.func79,Tryz.ntmps79
  go_wp2_with (first | (go_at_call 73;(with_reducible refine (dwidth_any _ (by first | decide | omega) (by first | decide | omega) _).mono ?_);rintro e w' ⟨rfl,rfl⟩))
  go_returns
  exact ⟨rfl,BC.h⟩
theorem dsingle_141 (w:World):Calls Tryz.prog 79 #[.int .i64 141] w fun e w'=>e=.returned (lfV (singleL 141))∧Below w.heap.size w w':=by
  go_enter Tryz.func79,Tryz.ntmps79
  go_wp2_with (first | (go_at_call 73;(with_reducible refine (dwidth_any _ (by first | decide | omega) (by first | decide | omega) _).mono ?_);rintro e w' ⟨rfl,rfl⟩))
  go_returns
  exact ⟨rfl,BC.h⟩
theorem dsingle_145 (w:World):Calls Tryz.prog 79 #[.int .i64 145] w fun e w'=>e=.returned (lfV (singleL 145))∧Below w.heap.size w w':=by
  go_enter Tryz.func79,Tryz.ntmps79
  go_wp2_with (first | (go_at_call 73;(with_reducible refine (dwidth_any _ (by first | decide | omega) (by first | decide | omega) _).mono ?_);rintro e w' ⟨rfl,rfl⟩))
  go_returns
  exact ⟨rfl,BC.h⟩
theorem dsingle_146 (w:World):Calls Tryz.prog 79 #[.int .i64 146] w fun e w'=>e=.returned (lfV (singleL 146))∧Below w.heap.size w w':=by
  go_enter Tryz.func79,Tryz.ntmps79
  go_wp2_with (first | (go_at_call 73;(with_reducible refine (dwidth_any _ (by first | decide | omega) (by first | decide | omega) _).mono ?_);rintro e w' ⟨rfl,rfl⟩))
  go_returns
  exact ⟨rfl,BC.h⟩
end
section
attribute [local go_sem] isSome_setCell
set_option maxRecDepth 100000
set_option maxHeartbeats 1000000
theorem dsingle_147 (w:World):Calls Tryz.prog 79 #[.int .i64 147] w fun e w'=>e=.returned (lfV (singleL 147))∧Below w.heap.size w w':=by
  go_enter Tryz.func79,Tryz.ntmps79
  go_wp2_with (first | (go_at_call 73;(with_reducible refine (dwidth_any _ (by first | decide | omega) (by first | decide | omega) _).mono ?_);rintro e w' ⟨rfl,rfl⟩))
  go_returns
  exact ⟨rfl,BC.h⟩
theorem dsingle_148 (w:World):Calls Tryz.prog 79 #[.int .i64 148] w fun e w'=>e=.returned (lfV (singleL 148))∧Below w.heap.size w w':=by
  go_enter Tryz.func79,Tryz.ntmps79
  go_wp2_with (first | (go_at_call 73;(with_reducible refine (dwidth_any _ (by first | decide | omega) (by first | decide | omega) _).mono ?_);rintro e w' ⟨rfl,rfl⟩))
  go_returns
  exact ⟨rfl,BC.h⟩
theorem dsingle_149 (w:World):Calls Tryz.prog 79 #[.int .i64 149] w fun e w'=>e=.returned (lfV (singleL 149))∧Below w.heap.size w w':=by
  go_enter Tryz.func79,Tryz.ntmps79
  go_wp2_with (first | (go_at_call 73;(with_reducible refine (dwidth_any _ (by first | decide | omega) (by first | decide | omega) _).mono ?_);rintro e w' ⟨rfl,rfl⟩))
  go_returns
  exact ⟨rfl,BC.h⟩
theorem dsingle_150 (w:World):Calls Tryz.prog 79 #[.int .i64 150] w fun e w'=>e=.returned (lfV (singleL 150))∧Below w.heap.size w w':=by
  go_enter Tryz.func79,Tryz.ntmps79
  go_wp2_with (first | (go_at_call 73;(with_reducible refine (dwidth_any _ (by first | decide | omega) (by first | decide | omega) _).mono ?_);rintro e w' ⟨rfl,rfl⟩))
  go_returns
  exact ⟨rfl,BC.h⟩
theorem dsingle_151 (w:World):Calls Tryz.prog 79 #[.int .i64 151] w fun e w'=>e=.returned (lfV (singleL 151))∧Below w.heap.size w w':=by
  go_enter Tryz.func79,Tryz.ntmps79
  go_wp2_with (first | (go_at_call 73;(with_reducible refine (dwidth_any _ (by first | decide | omega) (by first | decide | omega) _).mono ?_);rintro e w' ⟨rfl,rfl⟩))
  go_returns
  exact ⟨rfl,BC.h⟩
theorem dsingle_160 (w:World):Calls Tryz.prog 79 #[.int .i64 160] w fun e w'=>e=.returned (lfV (singleL 160))∧Below w.heap.size w w':=by
  go_enter Tryz.func79,Tryz.ntmps79
  go_wp2_with (first | (go_at_call 73;(with_reducible refine (dwidth_any _ (by first | decide | omega) (by first | decide | omega) _).mono ?_);rintro e w' ⟨rfl,rfl⟩))
  go_returns
  exact ⟨rfl,BC.h⟩
theorem dsingle_161 (w:World):Calls Tryz.prog 79 #[.int .i64 161] w fun e w'=>e=.returned (lfV (singleL 161))∧Below w.heap.size w w':=by
  go_enter Tryz.func79,Tryz.ntmps79
  go_wp2_with (first | (go_at_call 73;(with_reducible refine (dwidth_any _ (by first | decide | omega) (by first | decide | omega) _).mono ?_);rintro e w' ⟨rfl,rfl⟩))
  go_returns
  exact ⟨rfl,BC.h⟩
theorem dsingle_162 (w:World):Calls Tryz.prog 79 #[.int .i64 162] w fun e w'=>e=.returned (lfV (singleL 162))∧Below w.heap.size w w':=by
  go_enter Tryz.func79,Tryz.ntmps79
  go_wp2_with (first | (go_at_call 73;(with_reducible refine (dwidth_any _ (by first | decide | omega) (by first | decide | omega) _).mono ?_);rintro e w' ⟨rfl,rfl⟩))
  go_returns
  exact ⟨rfl,BC.h⟩
theorem dsingle_163 (w:World):Calls Tryz.prog 79 #[.int .i64 163] w fun e w'=>e=.returned (lfV (singleL 163))∧Below w.heap.size w w':=by
  go_enter Tryz.func79,Tryz.ntmps79
  go_wp2_with (first | (go_at_call 73;(with_reducible refine (dwidth_any _ (by first | decide | omega) (by first | decide | omega) _).mono ?_);rintro e w' ⟨rfl,rfl⟩))
  go_returns
  exact ⟨rfl,BC.h⟩
theorem dsingle_168 (w:World):Calls Tryz.prog 79 #[.int .i64 168] w fun e w'=>e=.returned (lfV (singleL 168))∧Below w.heap.size w w':=by
  go_enter Tryz.func79,Tryz.ntmps79
  go_wp2_with (first | (go_at_call 73;(with_reducible refine (dwidth_any _ (by first | decide | omega) (by first | decide | omega) _).mono ?_);rintro e w' ⟨rfl,rfl⟩))
  go_returns
  exact ⟨rfl,BC.h⟩
theorem dsingle_169 (w:World):Calls Tryz.prog 79 #[.int .i64 169] w fun e w'=>e=.returned (lfV (singleL 169))∧Below w.heap.size w w':=by
  go_enter Tryz.func79,Tryz.ntmps79
  go_wp2_with (first | (go_at_call 73;(with_reducible refine (dwidth_any _ (by first | decide | omega) (by first | decide | omega) _).mono ?_);rintro e w' ⟨rfl,rfl⟩))
  go_returns
  exact ⟨rfl,BC.h⟩
theorem dsingle_194 (w:World):Calls Tryz.prog 79 #[.int .i64 194] w fun e w'=>e=.returned (lfV (singleL 194))∧Below w.heap.size w w':=by
  go_enter Tryz.func79,Tryz.ntmps79
  go_wp2_with (first | (go_at_call 73;(with_reducible refine (dwidth_any _ (by first | decide | omega) (by first | decide | omega) _).mono ?_);rintro e w' ⟨rfl,rfl⟩))
  go_returns
  exact ⟨rfl,BC.h⟩
theorem dsingle_232 (w:World):Calls Tryz.prog 79 #[.int .i64 232] w fun e w'=>e=.returned (lfV (singleL 232))∧Below w.heap.size w w':=by
  go_enter Tryz.func79,Tryz.ntmps79
  go_wp2_with (first | (go_at_call 73;(with_reducible refine (dwidth_any _ (by first | decide | omega) (by first | decide | omega) _).mono ?_);rintro e w' ⟨rfl,rfl⟩))
  go_returns
  exact ⟨rfl,BC.h⟩
theorem dsingle_233 (w:World):Calls Tryz.prog 79 #[.int .i64 233] w fun e w'=>e=.returned (lfV (singleL 233))∧Below w.heap.size w w':=by
  go_enter Tryz.func79,Tryz.ntmps79
  go_wp2_with (first | (go_at_call 73;(with_reducible refine (dwidth_any _ (by first | decide | omega) (by first | decide | omega) _).mono ?_);rintro e w' ⟨rfl,rfl⟩))
  go_returns
  exact ⟨rfl,BC.h⟩
theorem dsingle_235 (w:World):Calls Tryz.prog 79 #[.int .i64 235] w fun e w'=>e=.returned (lfV (singleL 235))∧Below w.heap.size w w':=by
  go_enter Tryz.func79,Tryz.ntmps79
  go_wp2_with (first | (go_at_call 73;(with_reducible refine (dwidth_any _ (by first | decide | omega) (by first | decide | omega) _).mono ?_);rintro e w' ⟨rfl,rfl⟩))
  go_returns
  exact ⟨rfl,BC.h⟩
end
end Go.Proofs.YtlnahkkemjgjbaaGreat
