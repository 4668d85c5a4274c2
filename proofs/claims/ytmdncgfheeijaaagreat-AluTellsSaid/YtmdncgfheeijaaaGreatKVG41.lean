import Derived.Deep.DeepCutAuto
import Derived.KernelRfl
import Derived.Test.YtmdncgfheeijaaaGreatKVG20
namespace Go.Proofs.YtmdncgfheeijaaaGreat
open Go.ChangeShapes Go.WideShapes Go.ChangeAt Go.RowKit
section
attribute [local go_sem] isSome_setCell
set_option maxRecDepth 100000
set_option maxHeartbeats 4000000
theorem first_246z(m3:Bool)(w:World):Calls Tryz.prog 20 #[.int .u8 246,.int .i64 0,.bool m3] w fun e w'=>e=.returned (fstL (firstF 246 0 m3))∧Below w.heap.size w w':=by
 go_enter Tryz.func20,Tryz.ntmps20
 go_wp2_with (first|(go_at_call 44;refine(size4_any _ (by first|decide|omega) (by first|decide|omega) _).mono ?_;rintro e w' ⟨rfl,rfl⟩)|(go_at_call 45;refine(is_any _ _ _ _ (by first|decide|omega) (by first|decide|omega) _).mono ?_;rintro e w1 ⟨rfl,B1⟩;have HB:=Lib.hid (below_step (below_last (Below.refl _ _) _) B1);obtain⟨q1,hz⟩:=bcell B1;clear B1))
 refine bodyPost_ret (v:=fstL (firstF 246 0 m3)) (by simp[results,Tryz.results20,go_sem,q1,fstL,firstF,isF]) rfl ⟨rfl,?_⟩
 exact below5 HB.out _ (Nat.le_refl _)
theorem first_246b(reg:Int)(m3:Bool)(r0:-1≤reg)(r1:reg<8)(rz:reg≠0)(w:World):Calls Tryz.prog 20 #[.int .u8 246,.int .i64 reg,.bool m3] w fun e w'=>e=.returned (fstL (firstF 246 reg m3))∧Below w.heap.size w w':=by
 obtain⟨x,hx⟩:∃x,byF 246 reg [0,0,10,11] 1 [69]=x:=⟨_,rfl⟩
 have HF:=Lib.hid (show firstF 246 reg m3=x by rw[←hx];show(if reg=0 then _ else _)=_;rw[if_neg rz])
 have HX:=Lib.hid hx
 have hz0:(reg==0)=false:=by rw[beq_eq_false_iff_ne];exact rz
 clear hx rz
 go_enter Tryz.func20,Tryz.ntmps20
 go_wp2_with (first|(go_at_call 44;refine(size4_any _ (by first|decide|omega) (by first|decide|omega) _).mono ?_;rintro e w' ⟨rfl,rfl⟩)|(go_at_call 47;refine(by_new 246 reg 1 [0,0,10,11] [69] _ (by decide) (by decide) r0 r1 (by decide) x HX _ _ _ _ _ (by simp) rfl rfl rfl).mono ?_;rintro e w1 ⟨rfl,B1⟩;have HB:=Lib.hid (below_step (below_last (below_last (Below.refl _ _) _) _) B1);obtain⟨q0,q1,q2,q3,q4,qf⟩:=five_kept (five_kept1 B1);clear B1))
 refine bodyPost_ret (v:=.tuple #[.agg #[.int .i64 x.1.op,.int .i64 x.1.cond,.int .i64 x.1.size,.string ⟨x.1.how.toArray⟩,.int .i64 x.1.c],.bool x.2.1,.bool x.2.2]) (by simp[results,Tryz.results20,go_sem,q0,q1,q2,q3,q4]) rfl ⟨by rw[HF.out];rfl,?_⟩
 exact below5 HB.out _ (Nat.le_refl _)
theorem first_247z(m3:Bool)(w:World):Calls Tryz.prog 20 #[.int .u8 247,.int .i64 0,.bool m3] w fun e w'=>e=.returned (fstL (firstF 247 0 m3))∧Below w.heap.size w w':=by
 go_enter Tryz.func20,Tryz.ntmps20
 go_wp2_with (first|(go_at_call 44;refine(size4_any _ (by first|decide|omega) (by first|decide|omega) _).mono ?_;rintro e w' ⟨rfl,rfl⟩)|(go_at_call 45;refine(is_any _ _ _ _ (by first|decide|omega) (by first|decide|omega) _).mono ?_;rintro e w1 ⟨rfl,B1⟩;have HB:=Lib.hid (below_step (below_last (Below.refl _ _) _) B1);obtain⟨q1,hz⟩:=bcell B1;clear B1))
 refine bodyPost_ret (v:=fstL (firstF 247 0 m3)) (by simp[results,Tryz.results20,go_sem,q1,fstL,firstF,isF]) rfl ⟨rfl,?_⟩
 exact below5 HB.out _ (Nat.le_refl _)
theorem first_247b(reg:Int)(m3:Bool)(r0:-1≤reg)(r1:reg<8)(rz:reg≠0)(w:World):Calls Tryz.prog 20 #[.int .u8 247,.int .i64 reg,.bool m3] w fun e w'=>e=.returned (fstL (firstF 247 reg m3))∧Below w.heap.size w w':=by
 obtain⟨x,hx⟩:∃x,byF 247 reg [0,0,10,11,12,13,14,15] 4 [69]=x:=⟨_,rfl⟩
 have HF:=Lib.hid (show firstF 247 reg m3=x by rw[←hx];show(if reg=0 then _ else _)=_;rw[if_neg rz])
 have HX:=Lib.hid hx
 have hz0:(reg==0)=false:=by rw[beq_eq_false_iff_ne];exact rz
 clear hx rz
 go_enter Tryz.func20,Tryz.ntmps20
 go_wp2_with (first|(go_at_call 44;refine(size4_any _ (by first|decide|omega) (by first|decide|omega) _).mono ?_;rintro e w' ⟨rfl,rfl⟩)|(go_at_call 47;refine(by_new 247 reg 4 [0,0,10,11,12,13,14,15] [69] _ (by decide) (by decide) r0 r1 (by decide) x HX _ _ _ _ _ (by simp) rfl rfl rfl).mono ?_;rintro e w1 ⟨rfl,B1⟩;have HB:=Lib.hid (below_step (below_last (below_last (Below.refl _ _) _) _) B1);obtain⟨q0,q1,q2,q3,q4,qf⟩:=five_kept (five_kept1 B1);clear B1))
 refine bodyPost_ret (v:=.tuple #[.agg #[.int .i64 x.1.op,.int .i64 x.1.cond,.int .i64 x.1.size,.string ⟨x.1.how.toArray⟩,.int .i64 x.1.c],.bool x.2.1,.bool x.2.2]) (by simp[results,Tryz.results20,go_sem,q0,q1,q2,q3,q4]) rfl ⟨by rw[HF.out];rfl,?_⟩
 exact below5 HB.out _ (Nat.le_refl _)
theorem first_105(reg:Int)(m3:Bool)(w:World):Calls Tryz.prog 20 #[.int .u8 105,.int .i64 reg,.bool m3] w fun e w'=>e=.returned (fstL (firstF 105 reg m3))∧Below w.heap.size w w':=by
 have hmm:=@run_makeMap Tryz.prog
 have hm0:(Instr.mapUpdate 99 (.map (some (w.heap.size+1))) (.int .u8 105) (.string ⟨#[71,69,76]⟩)).run Tryz.prog ((w.alloc (.cells #[.int .i64 0,.int .i64 0,.int .i64 0,.string ⟨#[]⟩,.int .i64 0] 63)).alloc (.map #[] 0))=.ok () ((w.alloc (.cells #[.int .i64 0,.int .i64 0,.int .i64 0,.string ⟨#[]⟩,.int .i64 0] 63)).alloc (.map #[{ key:=.int .u8 105,val:=.string ⟨#[71,69,76]⟩,born:=0 }] 1)):=litmap_put _ _ (by simp) _ 5 9 .u8 #[] 0 105 _ Tryz.underlying99 Tryz.underlying5 rfl
 have hm1:(Instr.mapUpdate 99 (.map (some (w.heap.size+1))) (.int .u8 107) (.string ⟨#[71,69,66]⟩)).run Tryz.prog ((w.alloc (.cells #[.int .i64 0,.int .i64 0,.int .i64 0,.string ⟨#[]⟩,.int .i64 0] 63)).alloc (.map #[{ key:=.int .u8 105,val:=.string ⟨#[71,69,76]⟩,born:=0 }] 1))=.ok () ((w.alloc (.cells #[.int .i64 0,.int .i64 0,.int .i64 0,.string ⟨#[]⟩,.int .i64 0] 63)).alloc (.map #[{ key:=.int .u8 105,val:=.string ⟨#[71,69,76]⟩,born:=0 },{ key:=.int .u8 107,val:=.string ⟨#[71,69,66]⟩,born:=1 }] 2)):=litmap_put _ _ (by simp) _ 5 9 .u8 #[{ key:=.int .u8 105,val:=.string ⟨#[71,69,76]⟩,born:=0 }] 1 107 _ Tryz.underlying99 Tryz.underlying5 rfl
 have hmg:(Instr.lookup 99 (.map (some (w.heap.size+1))) (.int .u8 105) false).run Tryz.prog ((w.alloc (.cells #[.int .i64 0,.int .i64 0,.int .i64 0,.string ⟨#[]⟩,.int .i64 0] 63)).alloc (.map #[{ key:=.int .u8 105,val:=.string ⟨#[71,69,76]⟩,born:=0 },{ key:=.int .u8 107,val:=.string ⟨#[71,69,66]⟩,born:=1 }] 2))=.ok (.string ⟨#[71,69,76]⟩) ((w.alloc (.cells #[.int .i64 0,.int .i64 0,.int .i64 0,.string ⟨#[]⟩,.int .i64 0] 63)).alloc (.map #[{ key:=.int .u8 105,val:=.string ⟨#[71,69,76]⟩,born:=0 },{ key:=.int .u8 107,val:=.string ⟨#[71,69,66]⟩,born:=1 }] 2)):=litmap_get _ _ (by simp) _ 5 9 .u8 #[{ key:=.int .u8 105,val:=.string ⟨#[71,69,76]⟩,born:=0 },{ key:=.int .u8 107,val:=.string ⟨#[71,69,66]⟩,born:=1 }] 2 105 _ 0 Tryz.underlying99 Tryz.underlying5 rfl
 go_enter Tryz.func20,Tryz.ntmps20
 go_wp2_with (first|(go_at_call 44;refine(size4_any _ (by first|decide|omega) (by first|decide|omega) _).mono ?_;rintro e w' ⟨rfl,rfl⟩)|(go_at_call 45;refine(is_any _ _ _ _ (by decide) (by decide) _).mono ?_;rintro e w1 ⟨rfl,B1⟩;have HB:=Lib.hid (below_step (below_last (below_last (Below.refl _ _) _) _) B1);obtain⟨q0,q1,q2,q3,q4,qf⟩:=five_kept (five_kept1 B1);have hz1:=B1.size;(try simp[Nat.add_one_le_iff]at hz1);(have hz0:w.heap.size<w1.heap.size:=by omega);clear B1))
 refine bodyPost_ret (v:=.tuple #[.agg #[.int .i64 25,.int .i64 1,.int .i64 4,.string ⟨([71,69,76]:List UInt8).toArray⟩,.int .i64 1],.bool true,.bool false]) (by simp[results,Tryz.results20,go_sem,q0,q1,q2,q3,q4,hz0]) rfl ⟨by rfl,?_⟩
 exact below_last (below5 HB.out _ (Nat.le_refl _)) _
theorem first_107(reg:Int)(m3:Bool)(w:World):Calls Tryz.prog 20 #[.int .u8 107,.int .i64 reg,.bool m3] w fun e w'=>e=.returned (fstL (firstF 107 reg m3))∧Below w.heap.size w w':=by
 have hmm:=@run_makeMap Tryz.prog
 have hm0:(Instr.mapUpdate 99 (.map (some (w.heap.size+1))) (.int .u8 105) (.string ⟨#[71,69,76]⟩)).run Tryz.prog ((w.alloc (.cells #[.int .i64 0,.int .i64 0,.int .i64 0,.string ⟨#[]⟩,.int .i64 0] 63)).alloc (.map #[] 0))=.ok () ((w.alloc (.cells #[.int .i64 0,.int .i64 0,.int .i64 0,.string ⟨#[]⟩,.int .i64 0] 63)).alloc (.map #[{ key:=.int .u8 105,val:=.string ⟨#[71,69,76]⟩,born:=0 }] 1)):=litmap_put _ _ (by simp) _ 5 9 .u8 #[] 0 105 _ Tryz.underlying99 Tryz.underlying5 rfl
 have hm1:(Instr.mapUpdate 99 (.map (some (w.heap.size+1))) (.int .u8 107) (.string ⟨#[71,69,66]⟩)).run Tryz.prog ((w.alloc (.cells #[.int .i64 0,.int .i64 0,.int .i64 0,.string ⟨#[]⟩,.int .i64 0] 63)).alloc (.map #[{ key:=.int .u8 105,val:=.string ⟨#[71,69,76]⟩,born:=0 }] 1))=.ok () ((w.alloc (.cells #[.int .i64 0,.int .i64 0,.int .i64 0,.string ⟨#[]⟩,.int .i64 0] 63)).alloc (.map #[{ key:=.int .u8 105,val:=.string ⟨#[71,69,76]⟩,born:=0 },{ key:=.int .u8 107,val:=.string ⟨#[71,69,66]⟩,born:=1 }] 2)):=litmap_put _ _ (by simp) _ 5 9 .u8 #[{ key:=.int .u8 105,val:=.string ⟨#[71,69,76]⟩,born:=0 }] 1 107 _ Tryz.underlying99 Tryz.underlying5 rfl
 have hmg:(Instr.lookup 99 (.map (some (w.heap.size+1))) (.int .u8 107) false).run Tryz.prog ((w.alloc (.cells #[.int .i64 0,.int .i64 0,.int .i64 0,.string ⟨#[]⟩,.int .i64 0] 63)).alloc (.map #[{ key:=.int .u8 105,val:=.string ⟨#[71,69,76]⟩,born:=0 },{ key:=.int .u8 107,val:=.string ⟨#[71,69,66]⟩,born:=1 }] 2))=.ok (.string ⟨#[71,69,66]⟩) ((w.alloc (.cells #[.int .i64 0,.int .i64 0,.int .i64 0,.string ⟨#[]⟩,.int .i64 0] 63)).alloc (.map #[{ key:=.int .u8 105,val:=.string ⟨#[71,69,76]⟩,born:=0 },{ key:=.int .u8 107,val:=.string ⟨#[71,69,66]⟩,born:=1 }] 2)):=litmap_get _ _ (by simp) _ 5 9 .u8 #[{ key:=.int .u8 105,val:=.string ⟨#[71,69,76]⟩,born:=0 },{ key:=.int .u8 107,val:=.string ⟨#[71,69,66]⟩,born:=1 }] 2 107 _ 1 Tryz.underlying99 Tryz.underlying5 rfl
 go_enter Tryz.func20,Tryz.ntmps20
 go_wp2_with (first|(go_at_call 44;refine(size4_any _ (by first|decide|omega) (by first|decide|omega) _).mono ?_;rintro e w' ⟨rfl,rfl⟩)|(go_at_call 45;refine(is_any _ _ _ _ (by decide) (by decide) _).mono ?_;rintro e w1 ⟨rfl,B1⟩;have HB:=Lib.hid (below_step (below_last (below_last (Below.refl _ _) _) _) B1);obtain⟨q0,q1,q2,q3,q4,qf⟩:=five_kept (five_kept1 B1);have hz1:=B1.size;(try simp[Nat.add_one_le_iff]at hz1);(have hz0:w.heap.size<w1.heap.size:=by omega);clear B1))
 refine bodyPost_ret (v:=.tuple #[.agg #[.int .i64 25,.int .i64 1,.int .i64 4,.string ⟨([71,69,66]:List UInt8).toArray⟩,.int .i64 3],.bool true,.bool false]) (by simp[results,Tryz.results20,go_sem,q0,q1,q2,q3,q4,hz0]) rfl ⟨by rfl,?_⟩
 exact below_last (below5 HB.out _ (Nat.le_refl _)) _
theorem first_128n(reg:Int)(m3:Bool)(r0:reg<0)(w:World):Calls Tryz.prog 20 #[.int .u8 128,.int .i64 reg,.bool m3] w fun e w'=>e=.returned (fstL (firstF 128 reg m3))∧Below w.heap.size w w':=by
 have HX:=Lib.hid (show firstF 128 reg m3=(nilF,false,true)by show(if reg<0 then _ else _)=_;rw[if_pos r0])
 have hd:decide (reg<0)=true:=decide_eq_true r0
 go_enter Tryz.func20,Tryz.ntmps20
 go_wp2_with (go_at_call 44;refine(size4_any _ (by first|decide|omega) (by first|decide|omega) _).mono ?_;rintro e w' ⟨rfl,rfl⟩)
 go_returns
 exact⟨by rw[HX.out];rfl,below_last (Below.refl _ _) _⟩
theorem first_129n(reg:Int)(m3:Bool)(r0:reg<0)(w:World):Calls Tryz.prog 20 #[.int .u8 129,.int .i64 reg,.bool m3] w fun e w'=>e=.returned (fstL (firstF 129 reg m3))∧Below w.heap.size w w':=by
 have HX:=Lib.hid (show firstF 129 reg m3=(nilF,false,true)by show(if reg<0 then _ else _)=_;rw[if_pos r0])
 have hd:decide (reg<0)=true:=decide_eq_true r0
 go_enter Tryz.func20,Tryz.ntmps20
 go_wp2_with (go_at_call 44;refine(size4_any _ (by first|decide|omega) (by first|decide|omega) _).mono ?_;rintro e w' ⟨rfl,rfl⟩)
 go_returns
 exact⟨by rw[HX.out];rfl,below_last (Below.refl _ _) _⟩
theorem first_131n(reg:Int)(m3:Bool)(r0:reg<0)(w:World):Calls Tryz.prog 20 #[.int .u8 131,.int .i64 reg,.bool m3] w fun e w'=>e=.returned (fstL (firstF 131 reg m3))∧Below w.heap.size w w':=by
 have HX:=Lib.hid (show firstF 131 reg m3=(nilF,false,true)by show(if reg<0 then _ else _)=_;rw[if_pos r0])
 have hd:decide (reg<0)=true:=decide_eq_true r0
 go_enter Tryz.func20,Tryz.ntmps20
 go_wp2_with (go_at_call 44;refine(size4_any _ (by first|decide|omega) (by first|decide|omega) _).mono ?_;rintro e w' ⟨rfl,rfl⟩)
 go_returns
 exact⟨by rw[HX.out];rfl,below_last (Below.refl _ _) _⟩
end
section
attribute [local go_sem] isSome_setCell
set_option maxRecDepth 100000
set_option maxHeartbeats 4000000
theorem first_n0(c:Int)(h0:0≤c)(h1:c<64)(h2:¬c%8<6)(hs:c≠104∧c≠106∧c≠105∧c≠107∧c≠128∧c≠129∧c≠131∧c≠132∧c≠133∧c≠134∧c≠135∧c≠136∧c≠137∧c≠138∧c≠139∧c≠141∧c≠143∧c≠144∧c≠152∧c≠153∧c≠160∧c≠161∧c≠162∧c≠163∧c≠164∧c≠165∧c≠168∧c≠169∧c≠170∧c≠171∧c≠172∧c≠173∧c≠193∧c≠209∧c≠211∧c≠194∧c≠195∧c≠198∧c≠199∧c≠201∧c≠204∧c≠244∧c≠232∧c≠233∧c≠235∧c≠245∧c≠248∧c≠249∧c≠252∧c≠253∧c≠246∧c≠247∧c≠254∧c≠255)(reg:Int)(m3:Bool)(w:World):Calls Tryz.prog 20 #[.int .u8 c,.int .i64 reg,.bool m3] w fun e w'=>e=.returned (fstL (firstF c reg m3))∧Below w.heap.size w w':=by
 have HX:=Lib.hid (show firstF c reg m3=(nilF,false,false)by unfold firstF;repeat(rw[if_neg (by omega)]))
 simp only[ne_eq,←beq_eq_false_iff_ne]at hs
 obtain⟨e104,e106,e105,e107,e128,e129,e131,e132,e133,e134,e135,e136,e137,e138,e139,e141,e143,e144,e152,e153,e160,e161,e162,e163,e164,e165,e168,e169,e170,e171,e172,e173,e193,e209,e211,e194,e195,e198,e199,e201,e204,e244,e232,e233,e235,e245,e248,e249,e252,e253,e246,e247,e254,e255⟩:=hs
 have g64:decide (64≤c)=false:=decide_eq_false (by omega)
 have l64:decide (c<64)=true:=decide_eq_true (by omega)
 have g72:decide (72≤c)=false:=decide_eq_false (by omega)
 have l72:decide (c<72)=true:=decide_eq_true (by omega)
 have g80:decide (80≤c)=false:=decide_eq_false (by omega)
 have l80:decide (c<80)=true:=decide_eq_true (by omega)
 have g88:decide (88≤c)=false:=decide_eq_false (by omega)
 have l88:decide (c<88)=true:=decide_eq_true (by omega)
 have g96:decide (96≤c)=false:=decide_eq_false (by omega)
 have l96:decide (c<96)=true:=decide_eq_true (by omega)
 have g112:decide (112≤c)=false:=decide_eq_false (by omega)
 have l112:decide (c<112)=true:=decide_eq_true (by omega)
 have g128:decide (128≤c)=false:=decide_eq_false (by omega)
 have l128:decide (c<128)=true:=decide_eq_true (by omega)
 have g145:decide (145≤c)=false:=decide_eq_false (by omega)
 have l145:decide (c<145)=true:=decide_eq_true (by omega)
 have g152:decide (152≤c)=false:=decide_eq_false (by omega)
 have l152:decide (c<152)=true:=decide_eq_true (by omega)
 have g176:decide (176≤c)=false:=decide_eq_false (by omega)
 have l176:decide (c<176)=true:=decide_eq_true (by omega)
 have g184:decide (184≤c)=false:=decide_eq_false (by omega)
 have l184:decide (c<184)=true:=decide_eq_true (by omega)
 have g192:decide (192≤c)=false:=decide_eq_false (by omega)
 have l192:decide (c<192)=true:=decide_eq_true (by omega)
 have hand:bits .and .u8 c 7=c%8:=and7 c h0 (by omega)
 have h68:decide (c%8<6)=false:=decide_eq_false h2
 clear h2
 go_enter Tryz.func20,Tryz.ntmps20
 go_wp2_with (go_at_call 44;refine(size4_any _ (by first|decide|omega) (by first|decide|omega) _).mono ?_;rintro e w' ⟨rfl,rfl⟩)
 go_returns
 exact⟨by rw[HX.out];rfl,below_last (Below.refl _ _) _⟩
set_option maxHeartbeats 16000000
theorem first_nm(c:Int)(hr:(96≤c∧c<112)∨(128≤c∧c<145)∨(152≤c∧c<176)∨(192≤c∧c<256))(hs:c≠104∧c≠106∧c≠105∧c≠107∧c≠128∧c≠129∧c≠131∧c≠132∧c≠133∧c≠134∧c≠135∧c≠136∧c≠137∧c≠138∧c≠139∧c≠141∧c≠143∧c≠144∧c≠152∧c≠153∧c≠160∧c≠161∧c≠162∧c≠163∧c≠164∧c≠165∧c≠168∧c≠169∧c≠170∧c≠171∧c≠172∧c≠173∧c≠193∧c≠209∧c≠211∧c≠194∧c≠195∧c≠198∧c≠199∧c≠201∧c≠204∧c≠244∧c≠232∧c≠233∧c≠235∧c≠245∧c≠248∧c≠249∧c≠252∧c≠253∧c≠246∧c≠247∧c≠254∧c≠255)(reg:Int)(m3:Bool)(w:World):Calls Tryz.prog 20 #[.int .u8 c,.int .i64 reg,.bool m3] w fun e w'=>e=.returned (fstL (firstF c reg m3))∧Below w.heap.size w w':=by
 have HX:=Lib.hid (show firstF c reg m3=(nilF,false,false)by unfold firstF;repeat(rw[if_neg (by omega)]))
 simp only[ne_eq,←beq_eq_false_iff_ne]at hs
 obtain⟨e104,e106,e105,e107,e128,e129,e131,e132,e133,e134,e135,e136,e137,e138,e139,e141,e143,e144,e152,e153,e160,e161,e162,e163,e164,e165,e168,e169,e170,e171,e172,e173,e193,e209,e211,e194,e195,e198,e199,e201,e204,e244,e232,e233,e235,e245,e248,e249,e252,e253,e246,e247,e254,e255⟩:=hs
 rcases hr with⟨h0,h1⟩|⟨h0,h1⟩|⟨h0,h1⟩|⟨h0,h1⟩
 all_goals
  first|(have g64:decide (64≤c)=true:=decide_eq_true (by omega))|(have g64:decide (64≤c)=false:=decide_eq_false (by omega))
  first|(have l64:decide (c<64)=true:=decide_eq_true (by omega))|(have l64:decide (c<64)=false:=decide_eq_false (by omega))
  first|(have g72:decide (72≤c)=true:=decide_eq_true (by omega))|(have g72:decide (72≤c)=false:=decide_eq_false (by omega))
  first|(have l72:decide (c<72)=true:=decide_eq_true (by omega))|(have l72:decide (c<72)=false:=decide_eq_false (by omega))
  first|(have g80:decide (80≤c)=true:=decide_eq_true (by omega))|(have g80:decide (80≤c)=false:=decide_eq_false (by omega))
  first|(have l80:decide (c<80)=true:=decide_eq_true (by omega))|(have l80:decide (c<80)=false:=decide_eq_false (by omega))
  first|(have g88:decide (88≤c)=true:=decide_eq_true (by omega))|(have g88:decide (88≤c)=false:=decide_eq_false (by omega))
  first|(have l88:decide (c<88)=true:=decide_eq_true (by omega))|(have l88:decide (c<88)=false:=decide_eq_false (by omega))
  first|(have g96:decide (96≤c)=true:=decide_eq_true (by omega))|(have g96:decide (96≤c)=false:=decide_eq_false (by omega))
  first|(have l96:decide (c<96)=true:=decide_eq_true (by omega))|(have l96:decide (c<96)=false:=decide_eq_false (by omega))
  first|(have g112:decide (112≤c)=true:=decide_eq_true (by omega))|(have g112:decide (112≤c)=false:=decide_eq_false (by omega))
  first|(have l112:decide (c<112)=true:=decide_eq_true (by omega))|(have l112:decide (c<112)=false:=decide_eq_false (by omega))
  first|(have g128:decide (128≤c)=true:=decide_eq_true (by omega))|(have g128:decide (128≤c)=false:=decide_eq_false (by omega))
  first|(have l128:decide (c<128)=true:=decide_eq_true (by omega))|(have l128:decide (c<128)=false:=decide_eq_false (by omega))
  first|(have g145:decide (145≤c)=true:=decide_eq_true (by omega))|(have g145:decide (145≤c)=false:=decide_eq_false (by omega))
  first|(have l145:decide (c<145)=true:=decide_eq_true (by omega))|(have l145:decide (c<145)=false:=decide_eq_false (by omega))
  first|(have g152:decide (152≤c)=true:=decide_eq_true (by omega))|(have g152:decide (152≤c)=false:=decide_eq_false (by omega))
  first|(have l152:decide (c<152)=true:=decide_eq_true (by omega))|(have l152:decide (c<152)=false:=decide_eq_false (by omega))
  first|(have g176:decide (176≤c)=true:=decide_eq_true (by omega))|(have g176:decide (176≤c)=false:=decide_eq_false (by omega))
  first|(have l176:decide (c<176)=true:=decide_eq_true (by omega))|(have l176:decide (c<176)=false:=decide_eq_false (by omega))
  first|(have g184:decide (184≤c)=true:=decide_eq_true (by omega))|(have g184:decide (184≤c)=false:=decide_eq_false (by omega))
  first|(have l184:decide (c<184)=true:=decide_eq_true (by omega))|(have l184:decide (c<184)=false:=decide_eq_false (by omega))
  first|(have g192:decide (192≤c)=true:=decide_eq_true (by omega))|(have g192:decide (192≤c)=false:=decide_eq_false (by omega))
  first|(have l192:decide (c<192)=true:=decide_eq_true (by omega))|(have l192:decide (c<192)=false:=decide_eq_false (by omega))
  go_enter Tryz.func20,Tryz.ntmps20
  go_wp2_with (go_at_call 44;refine(size4_any _ (by first|decide|omega) (by first|decide|omega) _).mono ?_;rintro e w' ⟨rfl,rfl⟩)
  go_returns
  exact⟨by rw[HX.out];rfl,below_last (Below.refl _ _) _⟩
theorem first_n96(c:Int)(h0:96≤c)(h1:c<112)(hs:c≠104∧c≠106∧c≠105∧c≠107∧c≠128∧c≠129∧c≠131∧c≠132∧c≠133∧c≠134∧c≠135∧c≠136∧c≠137∧c≠138∧c≠139∧c≠141∧c≠143∧c≠144∧c≠152∧c≠153∧c≠160∧c≠161∧c≠162∧c≠163∧c≠164∧c≠165∧c≠168∧c≠169∧c≠170∧c≠171∧c≠172∧c≠173∧c≠193∧c≠209∧c≠211∧c≠194∧c≠195∧c≠198∧c≠199∧c≠201∧c≠204∧c≠244∧c≠232∧c≠233∧c≠235∧c≠245∧c≠248∧c≠249∧c≠252∧c≠253∧c≠246∧c≠247∧c≠254∧c≠255)(reg:Int)(m3:Bool)(w:World):Calls Tryz.prog 20 #[.int .u8 c,.int .i64 reg,.bool m3] w fun e w'=>e=.returned (fstL (firstF c reg m3))∧Below w.heap.size w w':=first_nm c (by omega) hs reg m3 w
theorem first_n128(c:Int)(h0:128≤c)(h1:c<145)(hs:c≠104∧c≠106∧c≠105∧c≠107∧c≠128∧c≠129∧c≠131∧c≠132∧c≠133∧c≠134∧c≠135∧c≠136∧c≠137∧c≠138∧c≠139∧c≠141∧c≠143∧c≠144∧c≠152∧c≠153∧c≠160∧c≠161∧c≠162∧c≠163∧c≠164∧c≠165∧c≠168∧c≠169∧c≠170∧c≠171∧c≠172∧c≠173∧c≠193∧c≠209∧c≠211∧c≠194∧c≠195∧c≠198∧c≠199∧c≠201∧c≠204∧c≠244∧c≠232∧c≠233∧c≠235∧c≠245∧c≠248∧c≠249∧c≠252∧c≠253∧c≠246∧c≠247∧c≠254∧c≠255)(reg:Int)(m3:Bool)(w:World):Calls Tryz.prog 20 #[.int .u8 c,.int .i64 reg,.bool m3] w fun e w'=>e=.returned (fstL (firstF c reg m3))∧Below w.heap.size w w':=first_nm c (by omega) hs reg m3 w
theorem first_n152(c:Int)(h0:152≤c)(h1:c<176)(hs:c≠104∧c≠106∧c≠105∧c≠107∧c≠128∧c≠129∧c≠131∧c≠132∧c≠133∧c≠134∧c≠135∧c≠136∧c≠137∧c≠138∧c≠139∧c≠141∧c≠143∧c≠144∧c≠152∧c≠153∧c≠160∧c≠161∧c≠162∧c≠163∧c≠164∧c≠165∧c≠168∧c≠169∧c≠170∧c≠171∧c≠172∧c≠173∧c≠193∧c≠209∧c≠211∧c≠194∧c≠195∧c≠198∧c≠199∧c≠201∧c≠204∧c≠244∧c≠232∧c≠233∧c≠235∧c≠245∧c≠248∧c≠249∧c≠252∧c≠253∧c≠246∧c≠247∧c≠254∧c≠255)(reg:Int)(m3:Bool)(w:World):Calls Tryz.prog 20 #[.int .u8 c,.int .i64 reg,.bool m3] w fun e w'=>e=.returned (fstL (firstF c reg m3))∧Below w.heap.size w w':=first_nm c (by omega) hs reg m3 w
theorem first_n192(c:Int)(h0:192≤c)(h1:c<256)(hs:c≠104∧c≠106∧c≠105∧c≠107∧c≠128∧c≠129∧c≠131∧c≠132∧c≠133∧c≠134∧c≠135∧c≠136∧c≠137∧c≠138∧c≠139∧c≠141∧c≠143∧c≠144∧c≠152∧c≠153∧c≠160∧c≠161∧c≠162∧c≠163∧c≠164∧c≠165∧c≠168∧c≠169∧c≠170∧c≠171∧c≠172∧c≠173∧c≠193∧c≠209∧c≠211∧c≠194∧c≠195∧c≠198∧c≠199∧c≠201∧c≠204∧c≠244∧c≠232∧c≠233∧c≠235∧c≠245∧c≠248∧c≠249∧c≠252∧c≠253∧c≠246∧c≠247∧c≠254∧c≠255)(reg:Int)(m3:Bool)(w:World):Calls Tryz.prog 20 #[.int .u8 c,.int .i64 reg,.bool m3] w fun e w'=>e=.returned (fstL (firstF c reg m3))∧Below w.heap.size w w':=first_nm c (by omega) hs reg m3 w
end
set_option maxRecDepth 100000
structure RInv (w:World) (R n:Nat) (u:World):Prop where
 below:Below R w u
 lt:R<u.heap.size
 there:∀i,i<n→(u.cell? ⟨R,i,none⟩).isSome=true
 froz:∀i,u.frozen? ⟨R,i,none⟩=false
def Full(R:Nat)(C:Array Value)(u:World):Prop:=∀i v,C[i]?=some v→u.cell? ⟨R,i,none⟩=some v
def RG(R:Nat)(C:Array Value)(u u':World):Prop:=(∀ad v,ad.block≠R→u.cell? ad=some v→u'.cell? ad=some v)∧(Full R C u→Full R C u')
theorem RG.refl(R:Nat)(C:Array Value)(u:World):RG R C u u:=⟨fun _ _ _ h=>h,fun h=>h⟩
theorem RInv.ext{w u u':World}{R n:Nat}(C:Array Value)(h:RInv w R n u)(hb:Below u.heap.size u u'):RInv w R n u'∧RG R C u u':=
 ⟨⟨h.below.trans (hb.mono (Nat.le_of_lt h.lt)),Nat.lt_of_lt_of_le h.lt hb.size,fun i hi=>by rw[hb.cell h.lt];exact h.there i hi,fun i=>by rw[hb.frozen h.lt];exact h.froz i⟩,
  fun ad v _ hc=>cell_call hb hc,fun hf i v hi=>cell_call hb (hf i v hi)⟩
theorem RInv.drawn{w:World}{R n:Nat}{u:World}(h:RInv w R n u):RInv w R n { u with drawn:=u.drawn+1 }:=⟨h.below.drew,h.lt,h.there,h.froz⟩
theorem made_row{w u:World}{R n:Nat}(C:Array Value)(h:RInv w R n u)(A:Array Value)(T:TypeId):
  RInv w R n (u.alloc (.cells A T))∧RG R C u (u.alloc (.cells A T))∧u.heap.size≠R∧∀j v,A[j]?=some v→(u.alloc (.cells A T)).cell? ⟨u.heap.size,j,none⟩=some v:=
 ⟨(h.ext C (below_last (Below.refl _ _) _)).1,(h.ext C (below_last (Below.refl _ _) _)).2,by have:=h.lt;omega,fun j v hj=>by rw[World.cell?_alloc_new,hj]⟩
theorem RInv.five{w u:World}{R:Nat}(h:RInv w R 5 u)(a b c d e:Value):
  RInv w R 5 (((((u.setCell ⟨R,0,none⟩ a).setCell ⟨R,1,none⟩ b).setCell ⟨R,2,none⟩ c).setCell ⟨R,3,none⟩ d).setCell ⟨R,4,none⟩ e) ∧
  RG R #[a,b,c,d,e] u (((((u.setCell ⟨R,0,none⟩ a).setCell ⟨R,1,none⟩ b).setCell ⟨R,2,none⟩ c).setCell ⟨R,3,none⟩ d).setCell ⟨R,4,none⟩ e) ∧
  Full R #[a,b,c,d,e] (((((u.setCell ⟨R,0,none⟩ a).setCell ⟨R,1,none⟩ b).setCell ⟨R,2,none⟩ c).setCell ⟨R,3,none⟩ d).setCell ⟨R,4,none⟩ e):=by
 have hs:∀i,i<5→(u.cell? ⟨R,i,none⟩).isSome=true:=h.there
 have hne:∀i j:Nat,i≠j→(⟨R,i,none⟩:Addr)≠⟨R,j,none⟩:=fun i j hij he=>hij (by injection he)
 have hfull:Full R #[a,b,c,d,e] (((((u.setCell ⟨R,0,none⟩ a).setCell ⟨R,1,none⟩ b).setCell ⟨R,2,none⟩ c).setCell ⟨R,3,none⟩ d).setCell ⟨R,4,none⟩ e):=by
  intro i v hi
  have h5:i<5:=by
   have:=(Array.getElem?_eq_some_iff.1 hi).1
   simpa using this
  have hc:i=0∨i=1∨i=2∨i=3∨i=4:=by omega
  rcases hc with rfl|rfl|rfl|rfl|rfl
  ·cases hi
   rw[World.cell?_setCell_other (h:=hne _ _ (by decide)),World.cell?_setCell_other (h:=hne _ _ (by decide)),World.cell?_setCell_other (h:=hne _ _ (by decide)),World.cell?_setCell_other (h:=hne _ _ (by decide)),World.cell?_setCell_same' _ _ _ (hs 0 (by decide))]
   rfl
  ·cases hi
   rw[World.cell?_setCell_other (h:=hne _ _ (by decide)),World.cell?_setCell_other (h:=hne _ _ (by decide)),World.cell?_setCell_other (h:=hne _ _ (by decide)),World.cell?_setCell_same' _ _ _ (by rw[isSome_setCell];exact hs 1 (by decide))]
   rfl
  ·cases hi
   rw[World.cell?_setCell_other (h:=hne _ _ (by decide)),World.cell?_setCell_other (h:=hne _ _ (by decide)),World.cell?_setCell_same' _ _ _ (by rw[isSome_setCell,isSome_setCell];exact hs 2 (by decide))]
   rfl
  ·cases hi
   rw[World.cell?_setCell_other (h:=hne _ _ (by decide)),World.cell?_setCell_same' _ _ _ (by rw[isSome_setCell,isSome_setCell,isSome_setCell];exact hs 3 (by decide))]
   rfl
  ·cases hi
   rw[World.cell?_setCell_same' _ _ _ (by rw[isSome_setCell,isSome_setCell,isSome_setCell,isSome_setCell];exact hs 4 (by decide))]
   rfl
 refine⟨⟨below5 h.below R (Nat.le_refl _),by simpa[World.setCell]using h.lt,fun i hi=>by rw[isSome_setCell,isSome_setCell,isSome_setCell,isSome_setCell,isSome_setCell];exact hs i hi,fun i=>by rw[World.frozen?_setCell,World.frozen?_setCell,World.frozen?_setCell,World.frozen?_setCell,World.frozen?_setCell];exact h.froz i⟩,⟨fun ad v hb hc=>?_,fun _=>hfull⟩,hfull⟩
 have hn:∀i:Nat,(⟨R,i,none⟩:Addr)≠ad:=fun i he=>hb (by rw[←he])
 rw[World.cell?_setCell_other (h:=hn _),World.cell?_setCell_other (h:=hn _),World.cell?_setCell_other (h:=hn _),World.cell?_setCell_other (h:=hn _),World.cell?_setCell_other (h:=hn _)]
 exact hc
section
attribute [local go_sem] isSome_setCell
def lowS(k:Nat):Int:=([1,4,1,4,1,4]:List Int).getD k 0
def lowH(k:Nat):ByteArray:=⟨(([[69,71],[69,71],[71,69],[71,69],[97,73],[97,73]]:List (List UInt8)).getD k []).toArray⟩
def lowC(c:Int)(k:Nat):Array Value:=#[.int .i64 (grpF alus (c/8)),.int .i64 0,.int .i64 (lowS k),.string (lowH k),.int .i64 (c%8)]
def lowV(R:Nat)(c:Int)(k:Nat):Nat→Value→World→Prop
 |0,v,_=>v=.int .u8 c
 |1,v,_=>v=.int .u8 c
 |2,v,_=>v=.int .u8 (c/8)
 |3,v,_=>v=.int .i64 (c/8)
 |4,v,_=>v=.int .i64 (grpF alus (c/8))
 |5,v,u=>∃B,v=.slice (some ⟨B,0,none⟩) 6 6∧B≠R∧∀j,j<6→u.cell? ⟨B,j,none⟩=some (.int .i64 (lowS j))
 |6,v,_=>v=.int .u8 c
 |7,v,_=>v=.int .u8 (k:Int)
 |8,v,u=>∃B,v=.pointer (some ⟨B,k,none⟩)∧B≠R∧u.cell? ⟨B,k,none⟩=some (.int .i64 (lowS k))
 |9,v,_=>v=.int .i64 (lowS k)
 |10,v,u=>∃B,v=.slice (some ⟨B,0,none⟩) 6 6∧B≠R∧∀j,j<6→u.cell? ⟨B,j,none⟩=some (.string (lowH j))
 |11,v,_=>v=.int .u8 c
 |12,v,_=>v=.int .u8 (k:Int)
 |13,v,u=>∃B,v=.pointer (some ⟨B,k,none⟩)∧B≠R∧u.cell? ⟨B,k,none⟩=some (.string (lowH k))
 |14,v,_=>v=.string (lowH k)
 |15,v,_=>v=.tuple #[.agg (lowC c k),.bool (grpF alus (c/8) != 0),.bool false]
 |16,v,_=>v=.agg (lowC c k)
 |17,v,_=>v=.bool (grpF alus (c/8) != 0)
 |18,v,_=>v=.bool false
 |19,_,u=>Full R (lowC c k) u
 |20,v,_=>v=.bool (grpF alus (c/8) != 0)
 |21,v,_=>v=.bool false
 |_,_,_=>True
theorem lowV_stays{R:Nat}{c:Int}{k:Nat}(i:Nat)(v:Value)(u u':World)(h:lowV R c k i v u)(g:RG R (lowC c k) u u'):lowV R c k i v u':=by
 unfold lowV at h ⊢
 split at h
 all_goals first
  |exact h
  |exact g.2 h
  |(obtain⟨B,h1,h2,h3⟩:=h;exact⟨B,h1,h2,fun j hj=>g.1 _ _ h2 (h3 j hj)⟩)
  |(obtain⟨B,h1,h2,h3⟩:=h;exact⟨B,h1,h2,g.1 _ _ h2 h3⟩)
set_option maxHeartbeats 4000000
theorem first_low(c:Int)(h0:0≤c)(h1:c<64)(h2:c%8<6)(reg:Int)(m3:Bool)(w:World):Calls Tryz.prog 20 #[.int .u8 c,.int .i64 reg,.bool m3] w fun e w'=>e=.returned (fstL (firstF c reg m3))∧Below w.heap.size w w':=by
 obtain⟨k,hk⟩:∃k:Nat,(k:Int)=c%8:=⟨(c%8).toNat,by omega⟩
 have hk6:k<6:=by omega
 have hand:bits .and .u8 c 7=c%8:=and7 c h0 (by omega)
 have h68:decide (c%8<6)=true:=decide_eq_true h2
 have g64:decide (64≤c)=false:=decide_eq_false (by omega)
 have l64:decide (c<64)=true:=decide_eq_true (by omega)
 have hwr:IntKind.i64.wrap (c/8)=c/8:=by rw[IntKind.wrap_i64];omega
 have HX:=Lib.hid (show firstF c reg m3=isF c (grpF alus (c/8)) (lowS k) (([[69,71],[69,71],[71,69],[71,69],[97,73],[97,73]]:List (List UInt8)).getD k [])by unfold firstF lowS;rw[if_pos ⟨h1,h2⟩,show(c%8).toNat=k by omega])
 have HA:=Lib.hid (alu_any (c/8) (by omega) (by omega))
 have HI:=Lib.hid (is_any c (grpF alus (c/8)) (lowS k) (lowH k) h0 (by omega))
 have HK:=Lib.hid hk
 have hki:(k:Int)<6:=by omega
 clear hk
 go_enter Tryz.func20,Tryz.ntmps20
 go_upto_region 3 with(go_at_call 44;refine(size4_any _ (by first|decide|omega) (by first|decide|omega) _).mono ?_;rintro e w' ⟨rfl,rfl⟩)
 refine wp_region_vals (by kernel_rfl) (fun i=>i==19) (by kernel_rfl) (RInv w w.heap.size 5) (RG w.heap.size (lowC c k)) (lowV w.heap.size c k) lowV_stays (RG.refl _ _) ?_ ?_ ?_
 ·exact RInv.drawn ⟨below_last (Below.refl _ _) _,by simp,fun i hi=>by
   have h5:i=0∨i=1∨i=2∨i=3∨i=4:=by omega
   rcases h5 with rfl|rfl|rfl|rfl|rfl<;>simp,fun i=>by simp⟩
 ·intro i o b u ho hinv hsz hbase hdep
  have hi:i<22:=(Array.getElem?_eq_some_iff.1 ho).1
  have b0:b.tmps.getD 0 undef=.int .u8 c:=hbase 0 (by kernel_rfl)
  have b6:b.tmps.getD 6 undef=.pointer (some ⟨w.heap.size,0,none⟩):=hbase 6 (by kernel_rfl)
  clear hbase hsz
  have h22:i=0∨i=1∨i=2∨i=3∨i=4∨i=5∨i=6∨i=7∨i=8∨i=9∨i=10∨i=11∨i=12∨i=13∨i=14∨i=15∨i=16∨i=17∨i=18∨i=19∨i=20∨i=21:=by omega
  rcases h22 with rfl|rfl|rfl|rfl|rfl|rfl|rfl|rfl|rfl|rfl|rfl|rfl|rfl|rfl|rfl|rfl|rfl|rfl|rfl|rfl|rfl|rfl
  ·cases ho
   exact wp_val (by simp[execOp,Act.eval,b0]<;>rfl) ⟨_,rfl,hinv,RG.refl _ _ _,rfl⟩
  ·cases ho
   exact wp_val (by simp[execOp,Act.eval,b0]<;>rfl) ⟨_,rfl,hinv,RG.refl _ _ _,rfl⟩
  ·cases ho
   have d1:b.tmps.getD 30 undef=.int .u8 c:=hdep 1 (by kernel_rfl)
   exact wp_val (by simp[execOp,Act.eval,d1,go_sem]<;>rfl) ⟨_,rfl,hinv,RG.refl _ _ _,rfl⟩
  ·cases ho
   have d2:b.tmps.getD 31 undef=.int .u8 (c/8):=hdep 2 (by kernel_rfl)
   exact wp_val (by simp[execOp,Act.eval,d2,go_sem,hwr]<;>rfl) ⟨_,rfl,hinv,RG.refl _ _ _,rfl⟩
  ·cases ho
   have d3:b.tmps.getD 32 undef=.int .i64 (c/8):=hdep 3 (by kernel_rfl)
   refine wp_call (by simp[execOp,Act.eval,d3,go_sem]<;>rfl) ((HA.out u).mono ?_)
   rintro e u' ⟨rfl,hb⟩
   exact⟨_,rfl,_,rfl,(hinv.ext (lowC c k) hb).1,(hinv.ext (lowC c k) hb).2,rfl⟩
  ·cases ho
   obtain⟨m1,m2,m3',m4⟩:=made_row (lowC c k) hinv _ _
   refine wp_val (by simp[execOp,Act.eval,go_sem]<;>rfl) ⟨_,rfl,m1,m2,_,rfl,m3',fun j hj=>m4 j _ ?_⟩
   have h6:j=0∨j=1∨j=2∨j=3∨j=4∨j=5:=by omega
   rcases h6 with rfl|rfl|rfl|rfl|rfl|rfl<;>rfl
  ·cases ho
   exact wp_val (by simp[execOp,Act.eval,b0]<;>rfl) ⟨_,rfl,hinv,RG.refl _ _ _,rfl⟩
  ·cases ho
   have d6:b.tmps.getD 35 undef=.int .u8 c:=hdep 6 (by kernel_rfl)
   exact wp_val (by simp[execOp,Act.eval,d6,go_sem,hand]<;>rfl) ⟨_,rfl,hinv,RG.refl _ _ _,by show _=Value.int .u8 (k:Int);rw[HK.out];rfl⟩
  ·cases ho
   obtain⟨B,e1,e2,e3⟩:=hdep 5 (by kernel_rfl)
   have d5:b.tmps.getD 34 undef=.slice (some ⟨B,0,none⟩) 6 6:=e1
   have d7:b.tmps.getD 36 undef=.int .u8 (k:Int):=hdep 7 (by kernel_rfl)
   exact wp_val (by simp[execOp,Act.eval,d5,d7,go_sem,hki]<;>rfl) ⟨_,rfl,hinv,RG.refl _ _ _,B,by simp,e2,e3 k hk6⟩
  ·cases ho
   obtain⟨B,e1,e2,e3⟩:=hdep 8 (by kernel_rfl)
   have d8:b.tmps.getD 37 undef=.pointer (some ⟨B,k,none⟩):=e1
   exact wp_val (by simp[execOp,Act.eval,d8,go_sem,e3]<;>rfl) ⟨_,rfl,hinv,RG.refl _ _ _,rfl⟩
  ·cases ho
   obtain⟨m1,m2,m3',m4⟩:=made_row (lowC c k) hinv _ _
   refine wp_val (by simp[execOp,Act.eval,go_sem]<;>rfl) ⟨_,rfl,m1,m2,_,rfl,m3',fun j hj=>m4 j _ ?_⟩
   have h6:j=0∨j=1∨j=2∨j=3∨j=4∨j=5:=by omega
   rcases h6 with rfl|rfl|rfl|rfl|rfl|rfl<;>rfl
  ·cases ho
   exact wp_val (by simp[execOp,Act.eval,b0]<;>rfl) ⟨_,rfl,hinv,RG.refl _ _ _,rfl⟩
  ·cases ho
   have d11:b.tmps.getD 40 undef=.int .u8 c:=hdep 11 (by kernel_rfl)
   exact wp_val (by simp[execOp,Act.eval,d11,go_sem,hand]<;>rfl) ⟨_,rfl,hinv,RG.refl _ _ _,by show _=Value.int .u8 (k:Int);rw[HK.out];rfl⟩
  ·cases ho
   obtain⟨B,e1,e2,e3⟩:=hdep 10 (by kernel_rfl)
   have d10:b.tmps.getD 39 undef=.slice (some ⟨B,0,none⟩) 6 6:=e1
   have d12:b.tmps.getD 41 undef=.int .u8 (k:Int):=hdep 12 (by kernel_rfl)
   exact wp_val (by simp[execOp,Act.eval,d10,d12,go_sem,hki]<;>rfl) ⟨_,rfl,hinv,RG.refl _ _ _,B,by simp,e2,e3 k hk6⟩
  ·cases ho
   obtain⟨B,e1,e2,e3⟩:=hdep 13 (by kernel_rfl)
   have d13:b.tmps.getD 42 undef=.pointer (some ⟨B,k,none⟩):=e1
   exact wp_val (by simp[execOp,Act.eval,d13,go_sem,e3]<;>rfl) ⟨_,rfl,hinv,RG.refl _ _ _,rfl⟩
  ·cases ho
   have d0:b.tmps.getD 29 undef=.int .u8 c:=hdep 0 (by kernel_rfl)
   have d4:b.tmps.getD 33 undef=.int .i64 (grpF alus (c/8)):=hdep 4 (by kernel_rfl)
   have d9:b.tmps.getD 38 undef=.int .i64 (lowS k):=hdep 9 (by kernel_rfl)
   have d14:b.tmps.getD 43 undef=.string (lowH k):=hdep 14 (by kernel_rfl)
   refine wp_call (by simp[execOp,Act.eval,d0,d4,d9,d14,go_sem]<;>rfl) ((HI.out u).mono ?_)
   rintro e u' ⟨rfl,hb⟩
   exact⟨_,rfl,_,rfl,(hinv.ext (lowC c k) hb).1,(hinv.ext (lowC c k) hb).2,rfl⟩
  ·cases ho
   have d15:b.tmps.getD 44 undef=.tuple #[.agg (lowC c k),.bool (grpF alus (c/8) != 0),.bool false]:=hdep 15 (by kernel_rfl)
   exact wp_val (by simp[execOp,Act.eval,d15,go_sem]<;>rfl) ⟨_,rfl,hinv,RG.refl _ _ _,rfl⟩
  ·cases ho
   have d15:b.tmps.getD 44 undef=.tuple #[.agg (lowC c k),.bool (grpF alus (c/8) != 0),.bool false]:=hdep 15 (by kernel_rfl)
   exact wp_val (by simp[execOp,Act.eval,d15,go_sem]<;>rfl) ⟨_,rfl,hinv,RG.refl _ _ _,rfl⟩
  ·cases ho
   have d15:b.tmps.getD 44 undef=.tuple #[.agg (lowC c k),.bool (grpF alus (c/8) != 0),.bool false]:=hdep 15 (by kernel_rfl)
   exact wp_val (by simp[execOp,Act.eval,d15,go_sem]<;>rfl) ⟨_,rfl,hinv,RG.refl _ _ _,rfl⟩
  ·cases ho
   have d16:b.tmps.getD 45 undef=.agg (lowC c k):=hdep 16 (by kernel_rfl)
   obtain⟨x0,e0⟩:=Option.isSome_iff_exists.1 (hinv.there 0 (by decide))
   have z0:=hinv.froz 0
   obtain⟨x1,e1⟩:=Option.isSome_iff_exists.1 (hinv.there 1 (by decide))
   have z1:=hinv.froz 1
   obtain⟨x2,e2⟩:=Option.isSome_iff_exists.1 (hinv.there 2 (by decide))
   have z2:=hinv.froz 2
   obtain⟨x3,e3⟩:=Option.isSome_iff_exists.1 (hinv.there 3 (by decide))
   have z3:=hinv.froz 3
   obtain⟨x4,e4⟩:=Option.isSome_iff_exists.1 (hinv.there 4 (by decide))
   have z4:=hinv.froz 4
   exact wp_skip (by simp[execOp,Act.eval,d16,b6,lowC,go_sem,e0,e1,e2,e3,e4,z0,z1,z2,z3,z4]<;>rfl) ⟨_,rfl,(hinv.five _ _ _ _ _).1,(hinv.five _ _ _ _ _).2.1,(hinv.five _ _ _ _ _).2.2⟩
  ·cases ho
   have d17:b.tmps.getD 46 undef=.bool (grpF alus (c/8) != 0):=hdep 17 (by kernel_rfl)
   exact wp_val (by simp[execOp,Act.eval,d17]<;>rfl) ⟨_,rfl,hinv,RG.refl _ _ _,rfl⟩
  ·cases ho
   have d18:b.tmps.getD 47 undef=.bool false:=hdep 18 (by kernel_rfl)
   exact wp_val (by simp[execOp,Act.eval,d18]<;>rfl) ⟨_,rfl,hinv,RG.refl _ _ _,rfl⟩
 ·intro f u hinv hV
  have q20:f 20=.bool (grpF alus (c/8) != 0):=hV 20 (by decide)
  have q21:f 21=.bool false:=hV 21 (by decide)
  have qF:=hV 19 (by decide)
  generalize hb:laid _ f _ _=b
  have b6:b.tmps.getD 6 undef=.pointer (some ⟨w.heap.size,0,none⟩):=by rw[←hb];kernel_rfl
  have b7:b.tmps.getD 7 undef=.bool (grpF alus (c/8) != 0):=by rw[←hb,←q20];kernel_rfl
  have b8:b.tmps.getD 8 undef=.bool false:=by rw[←hb,←q21];kernel_rfl
  have bd:b.defers=[]:=by rw[←hb];kernel_rfl
  clear hb
  rw[Array.getD_eq_getD_getElem?]at b6 b7 b8
  go_wp2_with fail
  have w0:u.cell? ⟨w.heap.size,0,none⟩=some (Value.int .i64 (grpF alus (c/8))):=qF 0 _ rfl
  have w1:u.cell? ⟨w.heap.size,1,none⟩=some (Value.int .i64 0):=qF 1 _ rfl
  have w2:u.cell? ⟨w.heap.size,2,none⟩=some (Value.int .i64 (lowS k)):=qF 2 _ rfl
  have w3:u.cell? ⟨w.heap.size,3,none⟩=some (Value.string (lowH k)):=qF 3 _ rfl
  have w4:u.cell? ⟨w.heap.size,4,none⟩=some (Value.int .i64 (c%8)):=qF 4 _ rfl
  refine bodyPost_ret (v:=.tuple #[.agg (lowC c k),.bool (grpF alus (c/8) != 0),.bool false]) (by simp[results,Tryz.results20,go_sem,b6,b7,b8,w0,w1,w2,w3,w4,lowC]) bd ⟨by rw[HX.out];rfl,hinv.below⟩
end
end Go.Proofs.YtmdncgfheeijaaaGreat
