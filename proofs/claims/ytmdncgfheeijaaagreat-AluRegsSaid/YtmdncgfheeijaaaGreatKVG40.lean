import Derived.Deep.DeepCutAuto
import Derived.Test.YtmdncgfheeijaaaGreatKVG20
namespace Go.Proofs.YtmdncgfheeijaaaGreat
open Go.ChangeShapes Go.WideShapes Go.ChangeAt Go.RowKit
section
attribute [local go_sem] isSome_setCell
set_option maxRecDepth 100000
set_option maxHeartbeats 4000000
theorem first_r64(c:Int)(h0:64≤c)(h1:c<72)(reg:Int)(m3:Bool)(w:World):Calls Tryz.prog 20 #[.int .u8 c,.int .i64 reg,.bool m3] w fun e w'=>e=.returned (fstL (firstF c reg m3))∧Below w.heap.size w w':=by
 have HX:=Lib.hid (show firstF c reg m3=isF c 16 4 [114]by unfold firstF;rw[if_neg (by omega)];rw[if_pos (by omega)])
 have g64:decide (64≤c)=true:=decide_eq_true (by omega)
 have l64:decide (c<64)=false:=decide_eq_false (by omega)
 have g72:decide (72≤c)=false:=decide_eq_false (by omega)
 have l72:decide (c<72)=true:=decide_eq_true (by omega)
 have g80:decide (80≤c)=false:=decide_eq_false (by omega)
 have l80:decide (c<80)=true:=decide_eq_true (by omega)
 have g88:decide (88≤c)=false:=decide_eq_false (by omega)
 have l88:decide (c<88)=true:=decide_eq_true (by omega)
 have g96:decide (96≤c)=false:=decide_eq_false (by omega)
 have l96:decide (c<96)=true:=decide_eq_true (by omega)
 have g112:decide (112≤c)=false:=decide_eq_false (by omega)
 have l112:decide (c<112)=true:=decide_eq_true (by omega)
 have g128:decide (128≤c)=false:=decide_eq_false (by omega)
 have l128:decide (c<128)=true:=decide_eq_true (by omega)
 have g145:decide (145≤c)=false:=decide_eq_false (by omega)
 have l145:decide (c<145)=true:=decide_eq_true (by omega)
 have g152:decide (152≤c)=false:=decide_eq_false (by omega)
 have l152:decide (c<152)=true:=decide_eq_true (by omega)
 have g176:decide (176≤c)=false:=decide_eq_false (by omega)
 have l176:decide (c<176)=true:=decide_eq_true (by omega)
 have g184:decide (184≤c)=false:=decide_eq_false (by omega)
 have l184:decide (c<184)=true:=decide_eq_true (by omega)
 have g192:decide (192≤c)=false:=decide_eq_false (by omega)
 have l192:decide (c<192)=true:=decide_eq_true (by omega)
 go_enter Tryz.func20,Tryz.ntmps20
 go_wp2_with (first|(go_at_call 44;refine(size4_any _ (by first|decide|omega) (by first|decide|omega) _).mono ?_;rintro e w' ⟨rfl,rfl⟩)|(go_at_call 45;refine(is_any _ _ _ _ (by first|decide|omega) (by first|decide|omega) _).mono ?_;rintro e w1 ⟨rfl,B1⟩;have HB:=Lib.hid (below_step (below_last (Below.refl _ _) _) B1);obtain⟨q1,hz⟩:=bcell B1;clear B1))
 refine bodyPost_ret (v:=.tuple #[.agg #[.int .i64 16,.int .i64 0,.int .i64 4,.string ⟨([114]:List UInt8).toArray⟩,.int .i64 (c%8)],.bool true,.bool false]) (by simp[results,Tryz.results20,go_sem,q1]) rfl ⟨by rw[HX.out];rfl,?_⟩
 exact below5 HB.out _ (Nat.le_refl _)
theorem first_r72(c:Int)(h0:72≤c)(h1:c<80)(reg:Int)(m3:Bool)(w:World):Calls Tryz.prog 20 #[.int .u8 c,.int .i64 reg,.bool m3] w fun e w'=>e=.returned (fstL (firstF c reg m3))∧Below w.heap.size w w':=by
 have HX:=Lib.hid (show firstF c reg m3=isF c 17 4 [114]by unfold firstF;rw[if_neg (by omega)];rw[if_neg (by omega)];rw[if_pos (by omega)])
 have g64:decide (64≤c)=true:=decide_eq_true (by omega)
 have l64:decide (c<64)=false:=decide_eq_false (by omega)
 have g72:decide (72≤c)=true:=decide_eq_true (by omega)
 have l72:decide (c<72)=false:=decide_eq_false (by omega)
 have g80:decide (80≤c)=false:=decide_eq_false (by omega)
 have l80:decide (c<80)=true:=decide_eq_true (by omega)
 have g88:decide (88≤c)=false:=decide_eq_false (by omega)
 have l88:decide (c<88)=true:=decide_eq_true (by omega)
 have g96:decide (96≤c)=false:=decide_eq_false (by omega)
 have l96:decide (c<96)=true:=decide_eq_true (by omega)
 have g112:decide (112≤c)=false:=decide_eq_false (by omega)
 have l112:decide (c<112)=true:=decide_eq_true (by omega)
 have g128:decide (128≤c)=false:=decide_eq_false (by omega)
 have l128:decide (c<128)=true:=decide_eq_true (by omega)
 have g145:decide (145≤c)=false:=decide_eq_false (by omega)
 have l145:decide (c<145)=true:=decide_eq_true (by omega)
 have g152:decide (152≤c)=false:=decide_eq_false (by omega)
 have l152:decide (c<152)=true:=decide_eq_true (by omega)
 have g176:decide (176≤c)=false:=decide_eq_false (by omega)
 have l176:decide (c<176)=true:=decide_eq_true (by omega)
 have g184:decide (184≤c)=false:=decide_eq_false (by omega)
 have l184:decide (c<184)=true:=decide_eq_true (by omega)
 have g192:decide (192≤c)=false:=decide_eq_false (by omega)
 have l192:decide (c<192)=true:=decide_eq_true (by omega)
 go_enter Tryz.func20,Tryz.ntmps20
 go_wp2_with (first|(go_at_call 44;refine(size4_any _ (by first|decide|omega) (by first|decide|omega) _).mono ?_;rintro e w' ⟨rfl,rfl⟩)|(go_at_call 45;refine(is_any _ _ _ _ (by first|decide|omega) (by first|decide|omega) _).mono ?_;rintro e w1 ⟨rfl,B1⟩;have HB:=Lib.hid (below_step (below_last (Below.refl _ _) _) B1);obtain⟨q1,hz⟩:=bcell B1;clear B1))
 refine bodyPost_ret (v:=.tuple #[.agg #[.int .i64 17,.int .i64 0,.int .i64 4,.string ⟨([114]:List UInt8).toArray⟩,.int .i64 (c%8)],.bool true,.bool false]) (by simp[results,Tryz.results20,go_sem,q1]) rfl ⟨by rw[HX.out];rfl,?_⟩
 exact below5 HB.out _ (Nat.le_refl _)
theorem first_r80(c:Int)(h0:80≤c)(h1:c<88)(reg:Int)(m3:Bool)(w:World):Calls Tryz.prog 20 #[.int .u8 c,.int .i64 reg,.bool m3] w fun e w'=>e=.returned (fstL (firstF c reg m3))∧Below w.heap.size w w':=by
 have HX:=Lib.hid (show firstF c reg m3=isF c 23 4 [114]by unfold firstF;rw[if_neg (by omega)];rw[if_neg (by omega)];rw[if_neg (by omega)];rw[if_pos (by omega)])
 have g64:decide (64≤c)=true:=decide_eq_true (by omega)
 have l64:decide (c<64)=false:=decide_eq_false (by omega)
 have g72:decide (72≤c)=true:=decide_eq_true (by omega)
 have l72:decide (c<72)=false:=decide_eq_false (by omega)
 have g80:decide (80≤c)=true:=decide_eq_true (by omega)
 have l80:decide (c<80)=false:=decide_eq_false (by omega)
 have g88:decide (88≤c)=false:=decide_eq_false (by omega)
 have l88:decide (c<88)=true:=decide_eq_true (by omega)
 have g96:decide (96≤c)=false:=decide_eq_false (by omega)
 have l96:decide (c<96)=true:=decide_eq_true (by omega)
 have g112:decide (112≤c)=false:=decide_eq_false (by omega)
 have l112:decide (c<112)=true:=decide_eq_true (by omega)
 have g128:decide (128≤c)=false:=decide_eq_false (by omega)
 have l128:decide (c<128)=true:=decide_eq_true (by omega)
 have g145:decide (145≤c)=false:=decide_eq_false (by omega)
 have l145:decide (c<145)=true:=decide_eq_true (by omega)
 have g152:decide (152≤c)=false:=decide_eq_false (by omega)
 have l152:decide (c<152)=true:=decide_eq_true (by omega)
 have g176:decide (176≤c)=false:=decide_eq_false (by omega)
 have l176:decide (c<176)=true:=decide_eq_true (by omega)
 have g184:decide (184≤c)=false:=decide_eq_false (by omega)
 have l184:decide (c<184)=true:=decide_eq_true (by omega)
 have g192:decide (192≤c)=false:=decide_eq_false (by omega)
 have l192:decide (c<192)=true:=decide_eq_true (by omega)
 go_enter Tryz.func20,Tryz.ntmps20
 go_wp2_with (first|(go_at_call 44;refine(size4_any _ (by first|decide|omega) (by first|decide|omega) _).mono ?_;rintro e w' ⟨rfl,rfl⟩)|(go_at_call 45;refine(is_any _ _ _ _ (by first|decide|omega) (by first|decide|omega) _).mono ?_;rintro e w1 ⟨rfl,B1⟩;have HB:=Lib.hid (below_step (below_last (Below.refl _ _) _) B1);obtain⟨q1,hz⟩:=bcell B1;clear B1))
 refine bodyPost_ret (v:=.tuple #[.agg #[.int .i64 23,.int .i64 0,.int .i64 4,.string ⟨([114]:List UInt8).toArray⟩,.int .i64 (c%8)],.bool true,.bool false]) (by simp[results,Tryz.results20,go_sem,q1]) rfl ⟨by rw[HX.out];rfl,?_⟩
 exact below5 HB.out _ (Nat.le_refl _)
theorem first_r88(c:Int)(h0:88≤c)(h1:c<96)(reg:Int)(m3:Bool)(w:World):Calls Tryz.prog 20 #[.int .u8 c,.int .i64 reg,.bool m3] w fun e w'=>e=.returned (fstL (firstF c reg m3))∧Below w.heap.size w w':=by
 have HX:=Lib.hid (show firstF c reg m3=isF c 24 4 [114]by unfold firstF;rw[if_neg (by omega)];rw[if_neg (by omega)];rw[if_neg (by omega)];rw[if_neg (by omega)];rw[if_pos (by omega)])
 have g64:decide (64≤c)=true:=decide_eq_true (by omega)
 have l64:decide (c<64)=false:=decide_eq_false (by omega)
 have g72:decide (72≤c)=true:=decide_eq_true (by omega)
 have l72:decide (c<72)=false:=decide_eq_false (by omega)
 have g80:decide (80≤c)=true:=decide_eq_true (by omega)
 have l80:decide (c<80)=false:=decide_eq_false (by omega)
 have g88:decide (88≤c)=true:=decide_eq_true (by omega)
 have l88:decide (c<88)=false:=decide_eq_false (by omega)
 have g96:decide (96≤c)=false:=decide_eq_false (by omega)
 have l96:decide (c<96)=true:=decide_eq_true (by omega)
 have g112:decide (112≤c)=false:=decide_eq_false (by omega)
 have l112:decide (c<112)=true:=decide_eq_true (by omega)
 have g128:decide (128≤c)=false:=decide_eq_false (by omega)
 have l128:decide (c<128)=true:=decide_eq_true (by omega)
 have g145:decide (145≤c)=false:=decide_eq_false (by omega)
 have l145:decide (c<145)=true:=decide_eq_true (by omega)
 have g152:decide (152≤c)=false:=decide_eq_false (by omega)
 have l152:decide (c<152)=true:=decide_eq_true (by omega)
 have g176:decide (176≤c)=false:=decide_eq_false (by omega)
 have l176:decide (c<176)=true:=decide_eq_true (by omega)
 have g184:decide (184≤c)=false:=decide_eq_false (by omega)
 have l184:decide (c<184)=true:=decide_eq_true (by omega)
 have g192:decide (192≤c)=false:=decide_eq_false (by omega)
 have l192:decide (c<192)=true:=decide_eq_true (by omega)
 go_enter Tryz.func20,Tryz.ntmps20
 go_wp2_with (first|(go_at_call 44;refine(size4_any _ (by first|decide|omega) (by first|decide|omega) _).mono ?_;rintro e w' ⟨rfl,rfl⟩)|(go_at_call 45;refine(is_any _ _ _ _ (by first|decide|omega) (by first|decide|omega) _).mono ?_;rintro e w1 ⟨rfl,B1⟩;have HB:=Lib.hid (below_step (below_last (Below.refl _ _) _) B1);obtain⟨q1,hz⟩:=bcell B1;clear B1))
 refine bodyPost_ret (v:=.tuple #[.agg #[.int .i64 24,.int .i64 0,.int .i64 4,.string ⟨([114]:List UInt8).toArray⟩,.int .i64 (c%8)],.bool true,.bool false]) (by simp[results,Tryz.results20,go_sem,q1]) rfl ⟨by rw[HX.out];rfl,?_⟩
 exact below5 HB.out _ (Nat.le_refl _)
theorem first_r145(c:Int)(h0:145≤c)(h1:c<152)(reg:Int)(m3:Bool)(w:World):Calls Tryz.prog 20 #[.int .u8 c,.int .i64 reg,.bool m3] w fun e w'=>e=.returned (fstL (firstF c reg m3))∧Below w.heap.size w w':=by
 have HX:=Lib.hid (show firstF c reg m3=isF c 22 4 [97,114]by unfold firstF;rw[if_neg (by omega)];rw[if_neg (by omega)];rw[if_neg (by omega)];rw[if_neg (by omega)];rw[if_neg (by omega)];rw[if_neg (by omega)];rw[if_pos (by omega)])
 have g64:decide (64≤c)=true:=decide_eq_true (by omega)
 have l64:decide (c<64)=false:=decide_eq_false (by omega)
 have g72:decide (72≤c)=true:=decide_eq_true (by omega)
 have l72:decide (c<72)=false:=decide_eq_false (by omega)
 have g80:decide (80≤c)=true:=decide_eq_true (by omega)
 have l80:decide (c<80)=false:=decide_eq_false (by omega)
 have g88:decide (88≤c)=true:=decide_eq_true (by omega)
 have l88:decide (c<88)=false:=decide_eq_false (by omega)
 have g96:decide (96≤c)=true:=decide_eq_true (by omega)
 have l96:decide (c<96)=false:=decide_eq_false (by omega)
 have g112:decide (112≤c)=true:=decide_eq_true (by omega)
 have l112:decide (c<112)=false:=decide_eq_false (by omega)
 have g128:decide (128≤c)=true:=decide_eq_true (by omega)
 have l128:decide (c<128)=false:=decide_eq_false (by omega)
 have g145:decide (145≤c)=true:=decide_eq_true (by omega)
 have l145:decide (c<145)=false:=decide_eq_false (by omega)
 have g152:decide (152≤c)=false:=decide_eq_false (by omega)
 have l152:decide (c<152)=true:=decide_eq_true (by omega)
 have g176:decide (176≤c)=false:=decide_eq_false (by omega)
 have l176:decide (c<176)=true:=decide_eq_true (by omega)
 have g184:decide (184≤c)=false:=decide_eq_false (by omega)
 have l184:decide (c<184)=true:=decide_eq_true (by omega)
 have g192:decide (192≤c)=false:=decide_eq_false (by omega)
 have l192:decide (c<192)=true:=decide_eq_true (by omega)
 go_enter Tryz.func20,Tryz.ntmps20
 go_wp2_with (first|(go_at_call 44;refine(size4_any _ (by first|decide|omega) (by first|decide|omega) _).mono ?_;rintro e w' ⟨rfl,rfl⟩)|(go_at_call 45;refine(is_any _ _ _ _ (by first|decide|omega) (by first|decide|omega) _).mono ?_;rintro e w1 ⟨rfl,B1⟩;have HB:=Lib.hid (below_step (below_last (Below.refl _ _) _) B1);obtain⟨q1,hz⟩:=bcell B1;clear B1))
 refine bodyPost_ret (v:=.tuple #[.agg #[.int .i64 22,.int .i64 0,.int .i64 4,.string ⟨([97,114]:List UInt8).toArray⟩,.int .i64 (c%8)],.bool true,.bool false]) (by simp[results,Tryz.results20,go_sem,q1]) rfl ⟨by rw[HX.out];rfl,?_⟩
 exact below5 HB.out _ (Nat.le_refl _)
theorem first_r176(c:Int)(h0:176≤c)(h1:c<184)(reg:Int)(m3:Bool)(w:World):Calls Tryz.prog 20 #[.int .u8 c,.int .i64 reg,.bool m3] w fun e w'=>e=.returned (fstL (firstF c reg m3))∧Below w.heap.size w w':=by
 have HX:=Lib.hid (show firstF c reg m3=isF c 18 1 [114,73]by unfold firstF;rw[if_neg (by omega)];rw[if_neg (by omega)];rw[if_neg (by omega)];rw[if_neg (by omega)];rw[if_neg (by omega)];rw[if_neg (by omega)];rw[if_neg (by omega)];rw[if_pos (by omega)])
 have g64:decide (64≤c)=true:=decide_eq_true (by omega)
 have l64:decide (c<64)=false:=decide_eq_false (by omega)
 have g72:decide (72≤c)=true:=decide_eq_true (by omega)
 have l72:decide (c<72)=false:=decide_eq_false (by omega)
 have g80:decide (80≤c)=true:=decide_eq_true (by omega)
 have l80:decide (c<80)=false:=decide_eq_false (by omega)
 have g88:decide (88≤c)=true:=decide_eq_true (by omega)
 have l88:decide (c<88)=false:=decide_eq_false (by omega)
 have g96:decide (96≤c)=true:=decide_eq_true (by omega)
 have l96:decide (c<96)=false:=decide_eq_false (by omega)
 have g112:decide (112≤c)=true:=decide_eq_true (by omega)
 have l112:decide (c<112)=false:=decide_eq_false (by omega)
 have g128:decide (128≤c)=true:=decide_eq_true (by omega)
 have l128:decide (c<128)=false:=decide_eq_false (by omega)
 have g145:decide (145≤c)=true:=decide_eq_true (by omega)
 have l145:decide (c<145)=false:=decide_eq_false (by omega)
 have g152:decide (152≤c)=true:=decide_eq_true (by omega)
 have l152:decide (c<152)=false:=decide_eq_false (by omega)
 have g176:decide (176≤c)=true:=decide_eq_true (by omega)
 have l176:decide (c<176)=false:=decide_eq_false (by omega)
 have g184:decide (184≤c)=false:=decide_eq_false (by omega)
 have l184:decide (c<184)=true:=decide_eq_true (by omega)
 have g192:decide (192≤c)=false:=decide_eq_false (by omega)
 have l192:decide (c<192)=true:=decide_eq_true (by omega)
 go_enter Tryz.func20,Tryz.ntmps20
 go_wp2_with (first|(go_at_call 44;refine(size4_any _ (by first|decide|omega) (by first|decide|omega) _).mono ?_;rintro e w' ⟨rfl,rfl⟩)|(go_at_call 45;refine(is_any _ _ _ _ (by first|decide|omega) (by first|decide|omega) _).mono ?_;rintro e w1 ⟨rfl,B1⟩;have HB:=Lib.hid (below_step (below_last (Below.refl _ _) _) B1);obtain⟨q1,hz⟩:=bcell B1;clear B1))
 refine bodyPost_ret (v:=.tuple #[.agg #[.int .i64 18,.int .i64 0,.int .i64 1,.string ⟨([114,73]:List UInt8).toArray⟩,.int .i64 (c%8)],.bool true,.bool false]) (by simp[results,Tryz.results20,go_sem,q1]) rfl ⟨by rw[HX.out];rfl,?_⟩
 exact below5 HB.out _ (Nat.le_refl _)
theorem first_r184(c:Int)(h0:184≤c)(h1:c<192)(reg:Int)(m3:Bool)(w:World):Calls Tryz.prog 20 #[.int .u8 c,.int .i64 reg,.bool m3] w fun e w'=>e=.returned (fstL (firstF c reg m3))∧Below w.heap.size w w':=by
 have HX:=Lib.hid (show firstF c reg m3=isF c 18 4 [114,73]by unfold firstF;rw[if_neg (by omega)];rw[if_neg (by omega)];rw[if_neg (by omega)];rw[if_neg (by omega)];rw[if_neg (by omega)];rw[if_neg (by omega)];rw[if_neg (by omega)];rw[if_neg (by omega)];rw[if_pos (by omega)])
 have g64:decide (64≤c)=true:=decide_eq_true (by omega)
 have l64:decide (c<64)=false:=decide_eq_false (by omega)
 have g72:decide (72≤c)=true:=decide_eq_true (by omega)
 have l72:decide (c<72)=false:=decide_eq_false (by omega)
 have g80:decide (80≤c)=true:=decide_eq_true (by omega)
 have l80:decide (c<80)=false:=decide_eq_false (by omega)
 have g88:decide (88≤c)=true:=decide_eq_true (by omega)
 have l88:decide (c<88)=false:=decide_eq_false (by omega)
 have g96:decide (96≤c)=true:=decide_eq_true (by omega)
 have l96:decide (c<96)=false:=decide_eq_false (by omega)
 have g112:decide (112≤c)=true:=decide_eq_true (by omega)
 have l112:decide (c<112)=false:=decide_eq_false (by omega)
 have g128:decide (128≤c)=true:=decide_eq_true (by omega)
 have l128:decide (c<128)=false:=decide_eq_false (by omega)
 have g145:decide (145≤c)=true:=decide_eq_true (by omega)
 have l145:decide (c<145)=false:=decide_eq_false (by omega)
 have g152:decide (152≤c)=true:=decide_eq_true (by omega)
 have l152:decide (c<152)=false:=decide_eq_false (by omega)
 have g176:decide (176≤c)=true:=decide_eq_true (by omega)
 have l176:decide (c<176)=false:=decide_eq_false (by omega)
 have g184:decide (184≤c)=true:=decide_eq_true (by omega)
 have l184:decide (c<184)=false:=decide_eq_false (by omega)
 have g192:decide (192≤c)=false:=decide_eq_false (by omega)
 have l192:decide (c<192)=true:=decide_eq_true (by omega)
 go_enter Tryz.func20,Tryz.ntmps20
 go_wp2_with (first|(go_at_call 44;refine(size4_any _ (by first|decide|omega) (by first|decide|omega) _).mono ?_;rintro e w' ⟨rfl,rfl⟩)|(go_at_call 45;refine(is_any _ _ _ _ (by first|decide|omega) (by first|decide|omega) _).mono ?_;rintro e w1 ⟨rfl,B1⟩;have HB:=Lib.hid (below_step (below_last (Below.refl _ _) _) B1);obtain⟨q1,hz⟩:=bcell B1;clear B1))
 refine bodyPost_ret (v:=.tuple #[.agg #[.int .i64 18,.int .i64 0,.int .i64 4,.string ⟨([114,73]:List UInt8).toArray⟩,.int .i64 (c%8)],.bool true,.bool false]) (by simp[results,Tryz.results20,go_sem,q1]) rfl ⟨by rw[HX.out];rfl,?_⟩
 exact below5 HB.out _ (Nat.le_refl _)
theorem first_jcc(c:Int)(h0:112≤c)(h1:c<128)(reg:Int)(m3:Bool)(w:World):Calls Tryz.prog 20 #[.int .u8 c,.int .i64 reg,.bool m3] w fun e w'=>e=.returned (fstL (firstF c reg m3))∧Below w.heap.size w w':=by
 have HX:=Lib.hid (show firstF c reg m3=(⟨31,c%16,0,[98],c%8⟩,true,false)by unfold firstF;rw[if_neg (by omega)];rw[if_neg (by omega)];rw[if_neg (by omega)];rw[if_neg (by omega)];rw[if_neg (by omega)];rw[if_pos (by omega)])
 have a15:bits .and .u8 c 15=c%16:=and15 c (by omega) (by omega)
 have w15:IntKind.i64.wrap (c%16)=c%16:=by rw[IntKind.wrap_i64];omega
 have g64:decide (64≤c)=true:=decide_eq_true (by omega)
 have l64:decide (c<64)=false:=decide_eq_false (by omega)
 have g72:decide (72≤c)=true:=decide_eq_true (by omega)
 have l72:decide (c<72)=false:=decide_eq_false (by omega)
 have g80:decide (80≤c)=true:=decide_eq_true (by omega)
 have l80:decide (c<80)=false:=decide_eq_false (by omega)
 have g88:decide (88≤c)=true:=decide_eq_true (by omega)
 have l88:decide (c<88)=false:=decide_eq_false (by omega)
 have g96:decide (96≤c)=true:=decide_eq_true (by omega)
 have l96:decide (c<96)=false:=decide_eq_false (by omega)
 have g112:decide (112≤c)=true:=decide_eq_true (by omega)
 have l112:decide (c<112)=false:=decide_eq_false (by omega)
 have g128:decide (128≤c)=false:=decide_eq_false (by omega)
 have l128:decide (c<128)=true:=decide_eq_true (by omega)
 have g145:decide (145≤c)=false:=decide_eq_false (by omega)
 have l145:decide (c<145)=true:=decide_eq_true (by omega)
 have g152:decide (152≤c)=false:=decide_eq_false (by omega)
 have l152:decide (c<152)=true:=decide_eq_true (by omega)
 have g176:decide (176≤c)=false:=decide_eq_false (by omega)
 have l176:decide (c<176)=true:=decide_eq_true (by omega)
 have g184:decide (184≤c)=false:=decide_eq_false (by omega)
 have l184:decide (c<184)=true:=decide_eq_true (by omega)
 have g192:decide (192≤c)=false:=decide_eq_false (by omega)
 have l192:decide (c<192)=true:=decide_eq_true (by omega)
 go_enter Tryz.func20,Tryz.ntmps20
 go_wp2_with (first|(go_at_call 44;refine(size4_any _ (by first|decide|omega) (by first|decide|omega) _).mono ?_;rintro e w' ⟨rfl,rfl⟩)|(go_at_call 45;refine(is_any _ _ _ _ (by omega) (by omega) _).mono ?_;rintro e w1 ⟨rfl,B1⟩;have HB:=Lib.hid (below_step (below_last (Below.refl _ _) _) B1);obtain⟨q0,q1,q2,q3,q4,qf⟩:=five_kept (five_kept0 B1);have hz1:=B1.size;(try simp[Nat.add_one_le_iff]at hz1);clear B1))
 refine bodyPost_ret (v:=.tuple #[.agg #[.int .i64 31,.int .i64 (c%16),.int .i64 0,.string ⟨([98]:List UInt8).toArray⟩,.int .i64 (c%8)],.bool true,.bool false]) (by simp[results,Tryz.results20,go_sem,q0,q1,q2,q3,q4,hz1]) rfl ⟨by rw[HX.out];rfl,?_⟩
 exact below_last (below5 HB.out _ (Nat.le_refl _)) _
theorem first_141n(reg:Int)(m3:Bool)(r0:reg<0)(w:World):Calls Tryz.prog 20 #[.int .u8 141,.int .i64 reg,.bool m3] w fun e w'=>e=.returned (fstL (firstF 141 reg m3))∧Below w.heap.size w w':=by
 have HX:=Lib.hid (show firstF 141 reg m3=(nilF,false,true)by show(if reg<0 then _ else _)=_;rw[if_pos r0])
 have hd:decide (reg<0)=true:=decide_eq_true r0
 go_enter Tryz.func20,Tryz.ntmps20
 go_wp2_with (go_at_call 44;refine(size4_any _ (by first|decide|omega) (by first|decide|omega) _).mono ?_;rintro e w' ⟨rfl,rfl⟩)
 go_returns
 exact⟨by rw[HX.out];rfl,below_last (Below.refl _ _) _⟩
theorem first_141y(reg:Int)(m3:Bool)(r0:0≤reg)(w:World):Calls Tryz.prog 20 #[.int .u8 141,.int .i64 reg,.bool m3] w fun e w'=>e=.returned (fstL (firstF 141 reg m3))∧Below w.heap.size w w':=by
 have HX:=Lib.hid (show firstF 141 reg m3=(⟨21,0,4,[71,69],5⟩,!m3,false)by show(if reg<0 then _ else _)=_;rw[if_neg (by omega)];rfl)
 have hd:decide (reg<0)=false:=decide_eq_false (by omega)
 go_enter Tryz.func20,Tryz.ntmps20
 go_wp2_with (first|(go_at_call 44;refine(size4_any _ (by first|decide|omega) (by first|decide|omega) _).mono ?_;rintro e w' ⟨rfl,rfl⟩)|(go_at_call 45;refine(is_any _ _ _ _ (by decide) (by decide) _).mono ?_;rintro e w1 ⟨rfl,B1⟩;have HB:=Lib.hid (below_step (below_last (Below.refl _ _) _) B1);obtain⟨q0,q1,q2,q3,q4,qf⟩:=five_kept (five_kept0 B1);have hz1:=B1.size;(try simp[Nat.add_one_le_iff]at hz1);clear B1))
 refine bodyPost_ret (v:=.tuple #[.agg #[.int .i64 21,.int .i64 0,.int .i64 4,.string ⟨([71,69]:List UInt8).toArray⟩,.int .i64 5],.bool (!m3),.bool false]) (by simp[results,Tryz.results20,go_sem,q0,q1,q2,q3,q4,hz1]) rfl ⟨by rw[HX.out];rfl,?_⟩
 exact below_last (below5 HB.out _ (Nat.le_refl _)) _
end
section
attribute [local go_sem] isSome_setCell
set_option maxRecDepth 100000
set_option maxHeartbeats 4000000
theorem first_143(reg:Int)(m3:Bool)(r0:-1≤reg)(r1:reg<8)(w:World):Calls Tryz.prog 20 #[.int .u8 143,.int .i64 reg,.bool m3] w fun e w'=>e=.returned (fstL (firstF 143 reg m3))∧Below w.heap.size w w':=by
 obtain⟨x,hx⟩:∃x,byF 143 reg [24] 4 [69]=x:=⟨_,rfl⟩
 have HF:=Lib.hid (show firstF 143 reg m3=x by rw[←hx];rfl)
 have HX:=Lib.hid hx
 clear hx
 go_enter Tryz.func20,Tryz.ntmps20
 go_wp2_with (first|(go_at_call 44;refine(size4_any _ (by first|decide|omega) (by first|decide|omega) _).mono ?_;rintro e w' ⟨rfl,rfl⟩)|(go_at_call 47;refine(by_new 143 reg 4 [24] [69] _ (by decide) (by decide) r0 r1 (by decide) x HX _ _ _ _ _ (by simp) rfl rfl rfl).mono ?_;rintro e w1 ⟨rfl,B1⟩;have HB:=Lib.hid (below_step (below_last (below_last (Below.refl _ _) _) _) B1);obtain⟨q0,q1,q2,q3,q4,qf⟩:=five_kept (five_kept1 B1);clear B1))
 refine bodyPost_ret (v:=.tuple #[.agg #[.int .i64 x.1.op,.int .i64 x.1.cond,.int .i64 x.1.size,.string ⟨x.1.how.toArray⟩,.int .i64 x.1.c],.bool x.2.1,.bool x.2.2]) (by simp[results,Tryz.results20,go_sem,q0,q1,q2,q3,q4]) rfl ⟨by rw[HF.out];rfl,?_⟩
 exact below5 HB.out _ (Nat.le_refl _)
theorem first_198(reg:Int)(m3:Bool)(r0:-1≤reg)(r1:reg<8)(w:World):Calls Tryz.prog 20 #[.int .u8 198,.int .i64 reg,.bool m3] w fun e w'=>e=.returned (fstL (firstF 198 reg m3))∧Below w.heap.size w w':=by
 obtain⟨x,hx⟩:∃x,byF 198 reg [18] 1 [69,73]=x:=⟨_,rfl⟩
 have HF:=Lib.hid (show firstF 198 reg m3=x by rw[←hx];rfl)
 have HX:=Lib.hid hx
 clear hx
 go_enter Tryz.func20,Tryz.ntmps20
 go_wp2_with (first|(go_at_call 44;refine(size4_any _ (by first|decide|omega) (by first|decide|omega) _).mono ?_;rintro e w' ⟨rfl,rfl⟩)|(go_at_call 47;refine(by_new 198 reg 1 [18] [69,73] _ (by decide) (by decide) r0 r1 (by decide) x HX _ _ _ _ _ (by simp) rfl rfl rfl).mono ?_;rintro e w1 ⟨rfl,B1⟩;have HB:=Lib.hid (below_step (below_last (below_last (Below.refl _ _) _) _) B1);obtain⟨q0,q1,q2,q3,q4,qf⟩:=five_kept (five_kept1 B1);clear B1))
 refine bodyPost_ret (v:=.tuple #[.agg #[.int .i64 x.1.op,.int .i64 x.1.cond,.int .i64 x.1.size,.string ⟨x.1.how.toArray⟩,.int .i64 x.1.c],.bool x.2.1,.bool x.2.2]) (by simp[results,Tryz.results20,go_sem,q0,q1,q2,q3,q4]) rfl ⟨by rw[HF.out];rfl,?_⟩
 exact below5 HB.out _ (Nat.le_refl _)
theorem first_199(reg:Int)(m3:Bool)(r0:-1≤reg)(r1:reg<8)(w:World):Calls Tryz.prog 20 #[.int .u8 199,.int .i64 reg,.bool m3] w fun e w'=>e=.returned (fstL (firstF 199 reg m3))∧Below w.heap.size w w':=by
 obtain⟨x,hx⟩:∃x,byF 199 reg [18] 4 [69,73]=x:=⟨_,rfl⟩
 have HF:=Lib.hid (show firstF 199 reg m3=x by rw[←hx];rfl)
 have HX:=Lib.hid hx
 clear hx
 go_enter Tryz.func20,Tryz.ntmps20
 go_wp2_with (first|(go_at_call 44;refine(size4_any _ (by first|decide|omega) (by first|decide|omega) _).mono ?_;rintro e w' ⟨rfl,rfl⟩)|(go_at_call 47;refine(by_new 199 reg 4 [18] [69,73] _ (by decide) (by decide) r0 r1 (by decide) x HX _ _ _ _ _ (by simp) rfl rfl rfl).mono ?_;rintro e w1 ⟨rfl,B1⟩;have HB:=Lib.hid (below_step (below_last (below_last (Below.refl _ _) _) _) B1);obtain⟨q0,q1,q2,q3,q4,qf⟩:=five_kept (five_kept1 B1);clear B1))
 refine bodyPost_ret (v:=.tuple #[.agg #[.int .i64 x.1.op,.int .i64 x.1.cond,.int .i64 x.1.size,.string ⟨x.1.how.toArray⟩,.int .i64 x.1.c],.bool x.2.1,.bool x.2.2]) (by simp[results,Tryz.results20,go_sem,q0,q1,q2,q3,q4]) rfl ⟨by rw[HF.out];rfl,?_⟩
 exact below5 HB.out _ (Nat.le_refl _)
theorem first_254(reg:Int)(m3:Bool)(r0:-1≤reg)(r1:reg<8)(w:World):Calls Tryz.prog 20 #[.int .u8 254,.int .i64 reg,.bool m3] w fun e w'=>e=.returned (fstL (firstF 254 reg m3))∧Below w.heap.size w w':=by
 obtain⟨x,hx⟩:∃x,byF 254 reg [16,17] 1 [69]=x:=⟨_,rfl⟩
 have HF:=Lib.hid (show firstF 254 reg m3=x by rw[←hx];rfl)
 have HX:=Lib.hid hx
 clear hx
 go_enter Tryz.func20,Tryz.ntmps20
 go_wp2_with (first|(go_at_call 44;refine(size4_any _ (by first|decide|omega) (by first|decide|omega) _).mono ?_;rintro e w' ⟨rfl,rfl⟩)|(go_at_call 47;refine(by_new 254 reg 1 [16,17] [69] _ (by decide) (by decide) r0 r1 (by decide) x HX _ _ _ _ _ (by simp) rfl rfl rfl).mono ?_;rintro e w1 ⟨rfl,B1⟩;have HB:=Lib.hid (below_step (below_last (below_last (Below.refl _ _) _) _) B1);obtain⟨q0,q1,q2,q3,q4,qf⟩:=five_kept (five_kept1 B1);clear B1))
 refine bodyPost_ret (v:=.tuple #[.agg #[.int .i64 x.1.op,.int .i64 x.1.cond,.int .i64 x.1.size,.string ⟨x.1.how.toArray⟩,.int .i64 x.1.c],.bool x.2.1,.bool x.2.2]) (by simp[results,Tryz.results20,go_sem,q0,q1,q2,q3,q4]) rfl ⟨by rw[HF.out];rfl,?_⟩
 exact below5 HB.out _ (Nat.le_refl _)
theorem first_255(reg:Int)(m3:Bool)(r0:-1≤reg)(r1:reg<8)(w:World):Calls Tryz.prog 20 #[.int .u8 255,.int .i64 reg,.bool m3] w fun e w'=>e=.returned (fstL (firstF 255 reg m3))∧Below w.heap.size w w':=by
 obtain⟨x,hx⟩:∃x,byF 255 reg [16,17,33,0,32,0,23] 4 [69]=x:=⟨_,rfl⟩
 have HF:=Lib.hid (show firstF 255 reg m3=x by rw[←hx];rfl)
 have HX:=Lib.hid hx
 clear hx
 go_enter Tryz.func20,Tryz.ntmps20
 go_wp2_with (first|(go_at_call 44;refine(size4_any _ (by first|decide|omega) (by first|decide|omega) _).mono ?_;rintro e w' ⟨rfl,rfl⟩)|(go_at_call 47;refine(by_new 255 reg 4 [16,17,33,0,32,0,23] [69] _ (by decide) (by decide) r0 r1 (by decide) x HX _ _ _ _ _ (by simp) rfl rfl rfl).mono ?_;rintro e w1 ⟨rfl,B1⟩;have HB:=Lib.hid (below_step (below_last (below_last (Below.refl _ _) _) _) B1);obtain⟨q0,q1,q2,q3,q4,qf⟩:=five_kept (five_kept1 B1);clear B1))
 refine bodyPost_ret (v:=.tuple #[.agg #[.int .i64 x.1.op,.int .i64 x.1.cond,.int .i64 x.1.size,.string ⟨x.1.how.toArray⟩,.int .i64 x.1.c],.bool x.2.1,.bool x.2.2]) (by simp[results,Tryz.results20,go_sem,q0,q1,q2,q3,q4]) rfl ⟨by rw[HF.out];rfl,?_⟩
 exact below5 HB.out _ (Nat.le_refl _)
theorem first_193(reg:Int)(m3:Bool)(r0:-1≤reg)(r1:reg<8)(w:World):Calls Tryz.prog 20 #[.int .u8 193,.int .i64 reg,.bool m3] w fun e w'=>e=.returned (fstL (firstF 193 reg m3))∧Below w.heap.size w w':=by
 obtain⟨x,hx⟩:∃x,byF 193 reg shfs 4 [69,98]=x:=⟨_,rfl⟩
 have HF:=Lib.hid (show firstF 193 reg m3=x by rw[←hx];rfl)
 have HX:=Lib.hid hx
 clear hx
 go_enter Tryz.func20,Tryz.ntmps20
 go_wp2_with (first|(go_at_call 44;refine(size4_any _ (by first|decide|omega) (by first|decide|omega) _).mono ?_;rintro e w' ⟨rfl,rfl⟩)|(go_at_call 48;refine(shifts_any _).mono ?_;rintro e w' ⟨rfl,rfl⟩)|(go_at_call 47;refine(by_new 193 reg 4 shfs [69,98] _ (by decide) (by decide) r0 r1 (by decide) x HX _ _ _ _ _ (by simp) rfl rfl rfl).mono ?_;rintro e w1 ⟨rfl,B1⟩;have HB:=Lib.hid (below_step (below_last (below_last (Below.refl _ _) _) _) B1);obtain⟨q0,q1,q2,q3,q4,qf⟩:=five_kept (five_kept1 B1);clear B1))
 refine bodyPost_ret (v:=.tuple #[.agg #[.int .i64 x.1.op,.int .i64 x.1.cond,.int .i64 x.1.size,.string ⟨x.1.how.toArray⟩,.int .i64 x.1.c],.bool x.2.1,.bool x.2.2]) (by simp[results,Tryz.results20,go_sem,q0,q1,q2,q3,q4]) rfl ⟨by rw[HF.out];rfl,?_⟩
 exact below5 HB.out _ (Nat.le_refl _)
theorem first_209(reg:Int)(m3:Bool)(r0:-1≤reg)(r1:reg<8)(w:World):Calls Tryz.prog 20 #[.int .u8 209,.int .i64 reg,.bool m3] w fun e w'=>e=.returned (fstL (firstF 209 reg m3))∧Below w.heap.size w w':=by
 obtain⟨x,hx⟩:∃x,byF 209 reg shfs 4 [69,49]=x:=⟨_,rfl⟩
 have HF:=Lib.hid (show firstF 209 reg m3=x by rw[←hx];rfl)
 have HX:=Lib.hid hx
 clear hx
 go_enter Tryz.func20,Tryz.ntmps20
 go_wp2_with (first|(go_at_call 44;refine(size4_any _ (by first|decide|omega) (by first|decide|omega) _).mono ?_;rintro e w' ⟨rfl,rfl⟩)|(go_at_call 48;refine(shifts_any _).mono ?_;rintro e w' ⟨rfl,rfl⟩)|(go_at_call 47;refine(by_new 209 reg 4 shfs [69,49] _ (by decide) (by decide) r0 r1 (by decide) x HX _ _ _ _ _ (by simp) rfl rfl rfl).mono ?_;rintro e w1 ⟨rfl,B1⟩;have HB:=Lib.hid (below_step (below_last (below_last (Below.refl _ _) _) _) B1);obtain⟨q0,q1,q2,q3,q4,qf⟩:=five_kept (five_kept1 B1);clear B1))
 refine bodyPost_ret (v:=.tuple #[.agg #[.int .i64 x.1.op,.int .i64 x.1.cond,.int .i64 x.1.size,.string ⟨x.1.how.toArray⟩,.int .i64 x.1.c],.bool x.2.1,.bool x.2.2]) (by simp[results,Tryz.results20,go_sem,q0,q1,q2,q3,q4]) rfl ⟨by rw[HF.out];rfl,?_⟩
 exact below5 HB.out _ (Nat.le_refl _)
theorem first_211(reg:Int)(m3:Bool)(r0:-1≤reg)(r1:reg<8)(w:World):Calls Tryz.prog 20 #[.int .u8 211,.int .i64 reg,.bool m3] w fun e w'=>e=.returned (fstL (firstF 211 reg m3))∧Below w.heap.size w w':=by
 obtain⟨x,hx⟩:∃x,byF 211 reg shfs 4 [69,99]=x:=⟨_,rfl⟩
 have HF:=Lib.hid (show firstF 211 reg m3=x by rw[←hx];rfl)
 have HX:=Lib.hid hx
 clear hx
 go_enter Tryz.func20,Tryz.ntmps20
 go_wp2_with (first|(go_at_call 44;refine(size4_any _ (by first|decide|omega) (by first|decide|omega) _).mono ?_;rintro e w' ⟨rfl,rfl⟩)|(go_at_call 48;refine(shifts_any _).mono ?_;rintro e w' ⟨rfl,rfl⟩)|(go_at_call 47;refine(by_new 211 reg 4 shfs [69,99] _ (by decide) (by decide) r0 r1 (by decide) x HX _ _ _ _ _ (by simp) rfl rfl rfl).mono ?_;rintro e w1 ⟨rfl,B1⟩;have HB:=Lib.hid (below_step (below_last (below_last (Below.refl _ _) _) _) B1);obtain⟨q0,q1,q2,q3,q4,qf⟩:=five_kept (five_kept1 B1);clear B1))
 refine bodyPost_ret (v:=.tuple #[.agg #[.int .i64 x.1.op,.int .i64 x.1.cond,.int .i64 x.1.size,.string ⟨x.1.how.toArray⟩,.int .i64 x.1.c],.bool x.2.1,.bool x.2.2]) (by simp[results,Tryz.results20,go_sem,q0,q1,q2,q3,q4]) rfl ⟨by rw[HF.out];rfl,?_⟩
 exact below5 HB.out _ (Nat.le_refl _)
end
end Go.Proofs.YtmdncgfheeijaaaGreat
