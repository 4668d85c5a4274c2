import Derived.Test.YtmdncgfheeijaaaGreatKVG20
namespace Go.Proofs.YtmdncgfheeijaaaGreat
open Go.ChangeShapes Go.WideShapes Go.ChangeAt Go.RowKit
set_option maxRecDepth 100000
set_option maxHeartbeats 4000000
theorem second_r64(c:Int)(h0:64≤c)(h1:c<80)(w:World):Calls Tryz.prog 21 #[.int .u8 0,.int .u8 c] w fun e w'=>e=.returned (secL (secondF 0 c))∧Below w.heap.size w w':=by
 have HX:=Lib.hid (show secondF 0 c=(⟨36,c%16,4,[71,69],0⟩,true)by unfold secondF;rw[if_pos rfl];rw[if_pos ⟨h0,h1⟩])
 have a15:=and15 c (by omega) (by omega)
 have w15:IntKind.i64.wrap (c%16)=c%16:=by rw[IntKind.wrap_i64];omega
 have g64:decide (64≤c)=true:=decide_eq_true (by omega)
 have l64:decide (c<64)=false:=decide_eq_false (by omega)
 have g80:decide (80≤c)=false:=decide_eq_false (by omega)
 have l80:decide (c<80)=true:=decide_eq_true (by omega)
 have g128:decide (128≤c)=false:=decide_eq_false (by omega)
 have l128:decide (c<128)=true:=decide_eq_true (by omega)
 have g144:decide (144≤c)=false:=decide_eq_false (by omega)
 have l144:decide (c<144)=true:=decide_eq_true (by omega)
 have g160:decide (160≤c)=false:=decide_eq_false (by omega)
 have l160:decide (c<160)=true:=decide_eq_true (by omega)
 clear h0 h1
 go_enter Tryz.func21,Tryz.ntmps21
 go_wp2
 go_returns
 refine⟨by rw[HX.out];rfl,?_⟩
 repeat(first|exact Below.refl _ _|(with_reducible refine Below.drew ?_)|(with_reducible refine below_last ?_ _))
theorem second_r128(c:Int)(h0:128≤c)(h1:c<144)(w:World):Calls Tryz.prog 21 #[.int .u8 0,.int .u8 c] w fun e w'=>e=.returned (secL (secondF 0 c))∧Below w.heap.size w w':=by
 have HX:=Lib.hid (show secondF 0 c=(⟨31,c%16,0,[105],0⟩,true)by unfold secondF;rw[if_pos rfl];rw[if_neg (by omega)];rw[if_pos ⟨h0,h1⟩])
 have a15:=and15 c (by omega) (by omega)
 have w15:IntKind.i64.wrap (c%16)=c%16:=by rw[IntKind.wrap_i64];omega
 have g64:decide (64≤c)=true:=decide_eq_true (by omega)
 have l64:decide (c<64)=false:=decide_eq_false (by omega)
 have g80:decide (80≤c)=true:=decide_eq_true (by omega)
 have l80:decide (c<80)=false:=decide_eq_false (by omega)
 have g128:decide (128≤c)=true:=decide_eq_true (by omega)
 have l128:decide (c<128)=false:=decide_eq_false (by omega)
 have g144:decide (144≤c)=false:=decide_eq_false (by omega)
 have l144:decide (c<144)=true:=decide_eq_true (by omega)
 have g160:decide (160≤c)=false:=decide_eq_false (by omega)
 have l160:decide (c<160)=true:=decide_eq_true (by omega)
 clear h0 h1
 go_enter Tryz.func21,Tryz.ntmps21
 go_wp2
 go_returns
 refine⟨by rw[HX.out];rfl,?_⟩
 repeat(first|exact Below.refl _ _|(with_reducible refine Below.drew ?_)|(with_reducible refine below_last ?_ _))
theorem second_r144(c:Int)(h0:144≤c)(h1:c<160)(w:World):Calls Tryz.prog 21 #[.int .u8 0,.int .u8 c] w fun e w'=>e=.returned (secL (secondF 0 c))∧Below w.heap.size w w':=by
 have HX:=Lib.hid (show secondF 0 c=(⟨35,c%16,1,[69],0⟩,true)by unfold secondF;rw[if_pos rfl];rw[if_neg (by omega)];rw[if_neg (by omega)];rw[if_pos ⟨h0,h1⟩])
 have a15:=and15 c (by omega) (by omega)
 have w15:IntKind.i64.wrap (c%16)=c%16:=by rw[IntKind.wrap_i64];omega
 have g64:decide (64≤c)=true:=decide_eq_true (by omega)
 have l64:decide (c<64)=false:=decide_eq_false (by omega)
 have g80:decide (80≤c)=true:=decide_eq_true (by omega)
 have l80:decide (c<80)=false:=decide_eq_false (by omega)
 have g128:decide (128≤c)=true:=decide_eq_true (by omega)
 have l128:decide (c<128)=false:=decide_eq_false (by omega)
 have g144:decide (144≤c)=true:=decide_eq_true (by omega)
 have l144:decide (c<144)=false:=decide_eq_false (by omega)
 have g160:decide (160≤c)=false:=decide_eq_false (by omega)
 have l160:decide (c<160)=true:=decide_eq_true (by omega)
 clear h0 h1
 go_enter Tryz.func21,Tryz.ntmps21
 go_wp2
 go_returns
 refine⟨by rw[HX.out];rfl,?_⟩
 repeat(first|exact Below.refl _ _|(with_reducible refine Below.drew ?_)|(with_reducible refine below_last ?_ _))
theorem second_0_175(w:World):Calls Tryz.prog 21 #[.int .u8 0,.int .u8 175] w fun e w'=>e=.returned (secL (secondF 0 175))∧Below w.heap.size w w':=by
 go_enter Tryz.func21,Tryz.ntmps21
 go_wp2
 go_region
 all_goals
  go_wp2
  go_returns
  refine⟨by rfl,?_⟩
  repeat(first|exact Below.refl _ _|(with_reducible refine Below.drew ?_)|(with_reducible refine below_last ?_ _))
theorem second_0_182(w:World):Calls Tryz.prog 21 #[.int .u8 0,.int .u8 182] w fun e w'=>e=.returned (secL (secondF 0 182))∧Below w.heap.size w w':=by
 have b1:bits .and .u8 182 1=0:=and1 182 (by decide) (by decide)
 go_enter Tryz.func21,Tryz.ntmps21
 go_wp2
 go_region
 all_goals
  go_wp2
  go_returns
  refine⟨by rfl,?_⟩
  repeat(first|exact Below.refl _ _|(with_reducible refine Below.drew ?_)|(with_reducible refine below_last ?_ _))
theorem second_0_183(w:World):Calls Tryz.prog 21 #[.int .u8 0,.int .u8 183] w fun e w'=>e=.returned (secL (secondF 0 183))∧Below w.heap.size w w':=by
 have b1:bits .and .u8 183 1=1:=and1 183 (by decide) (by decide)
 go_enter Tryz.func21,Tryz.ntmps21
 go_wp2
 go_region
 all_goals
  go_wp2
  go_returns
  refine⟨by rfl,?_⟩
  repeat(first|exact Below.refl _ _|(with_reducible refine Below.drew ?_)|(with_reducible refine below_last ?_ _))
theorem second_0_190(w:World):Calls Tryz.prog 21 #[.int .u8 0,.int .u8 190] w fun e w'=>e=.returned (secL (secondF 0 190))∧Below w.heap.size w w':=by
 have b1:bits .and .u8 190 1=0:=and1 190 (by decide) (by decide)
 go_enter Tryz.func21,Tryz.ntmps21
 go_wp2
 go_region
 all_goals
  go_wp2
  go_returns
  refine⟨by rfl,?_⟩
  repeat(first|exact Below.refl _ _|(with_reducible refine Below.drew ?_)|(with_reducible refine below_last ?_ _))
theorem second_0_191(w:World):Calls Tryz.prog 21 #[.int .u8 0,.int .u8 191] w fun e w'=>e=.returned (secL (secondF 0 191))∧Below w.heap.size w w':=by
 have b1:bits .and .u8 191 1=1:=and1 191 (by decide) (by decide)
 go_enter Tryz.func21,Tryz.ntmps21
 go_wp2
 go_region
 all_goals
  go_wp2
  go_returns
  refine⟨by rfl,?_⟩
  repeat(first|exact Below.refl _ _|(with_reducible refine Below.drew ?_)|(with_reducible refine below_last ?_ _))
theorem second_102_46(w:World):Calls Tryz.prog 21 #[.int .u8 102,.int .u8 46] w fun e w'=>e=.returned (secL (secondF 102 46))∧Below w.heap.size w w':=by
 go_enter Tryz.func21,Tryz.ntmps21
 go_wp2
 go_region
 all_goals
  go_wp2
  go_returns
  refine⟨by rfl,?_⟩
  repeat(first|exact Below.refl _ _|(with_reducible refine Below.drew ?_)|(with_reducible refine below_last ?_ _))
theorem second_242_16(w:World):Calls Tryz.prog 21 #[.int .u8 242,.int .u8 16] w fun e w'=>e=.returned (secL (secondF 242 16))∧Below w.heap.size w w':=by
 go_enter Tryz.func21,Tryz.ntmps21
 go_wp2
 go_region
 all_goals
  go_wp2
  go_returns
  refine⟨by rfl,?_⟩
  repeat(first|exact Below.refl _ _|(with_reducible refine Below.drew ?_)|(with_reducible refine below_last ?_ _))
theorem second_242_17(w:World):Calls Tryz.prog 21 #[.int .u8 242,.int .u8 17] w fun e w'=>e=.returned (secL (secondF 242 17))∧Below w.heap.size w w':=by
 go_enter Tryz.func21,Tryz.ntmps21
 go_wp2
 go_region
 all_goals
  go_wp2
  go_returns
  refine⟨by rfl,?_⟩
  repeat(first|exact Below.refl _ _|(with_reducible refine Below.drew ?_)|(with_reducible refine below_last ?_ _))
theorem second_242_42(w:World):Calls Tryz.prog 21 #[.int .u8 242,.int .u8 42] w fun e w'=>e=.returned (secL (secondF 242 42))∧Below w.heap.size w w':=by
 go_enter Tryz.func21,Tryz.ntmps21
 go_wp2
 go_region
 all_goals
  go_wp2
  go_returns
  refine⟨by rfl,?_⟩
  repeat(first|exact Below.refl _ _|(with_reducible refine Below.drew ?_)|(with_reducible refine below_last ?_ _))
theorem second_242_44(w:World):Calls Tryz.prog 21 #[.int .u8 242,.int .u8 44] w fun e w'=>e=.returned (secL (secondF 242 44))∧Below w.heap.size w w':=by
 go_enter Tryz.func21,Tryz.ntmps21
 go_wp2
 go_region
 all_goals
  go_wp2
  go_returns
  refine⟨by rfl,?_⟩
  repeat(first|exact Below.refl _ _|(with_reducible refine Below.drew ?_)|(with_reducible refine below_last ?_ _))
theorem s2_maps(w:World):(Instr.mapUpdate 100 (.map (some (w.heap.size+1+1))) (.int .u8 81) (.int .i64 58)).run Tryz.prog (((w.alloc (.cells #[.int .i64 0,.int .i64 0,.int .i64 0,.string ⟨#[]⟩,.int .i64 0] 63)).alloc (.cells #[.int .i64 0,.int .i64 0,.int .i64 8,.string ⟨#[]⟩,.int .i64 0] 63)).alloc (.map #[] 0))=.ok () (((w.alloc (.cells #[.int .i64 0,.int .i64 0,.int .i64 0,.string ⟨#[]⟩,.int .i64 0] 63)).alloc (.cells #[.int .i64 0,.int .i64 0,.int .i64 8,.string ⟨#[]⟩,.int .i64 0] 63)).alloc (.map #[{ key:=.int .u8 81,val:=.int .i64 58,born:=0 }] 1)) ∧
  (Instr.mapUpdate 100 (.map (some (w.heap.size+1+1))) (.int .u8 88) (.int .i64 52)).run Tryz.prog (((w.alloc (.cells #[.int .i64 0,.int .i64 0,.int .i64 0,.string ⟨#[]⟩,.int .i64 0] 63)).alloc (.cells #[.int .i64 0,.int .i64 0,.int .i64 8,.string ⟨#[]⟩,.int .i64 0] 63)).alloc (.map #[{ key:=.int .u8 81,val:=.int .i64 58,born:=0 }] 1))=.ok () (((w.alloc (.cells #[.int .i64 0,.int .i64 0,.int .i64 0,.string ⟨#[]⟩,.int .i64 0] 63)).alloc (.cells #[.int .i64 0,.int .i64 0,.int .i64 8,.string ⟨#[]⟩,.int .i64 0] 63)).alloc (.map #[{ key:=.int .u8 81,val:=.int .i64 58,born:=0 },{ key:=.int .u8 88,val:=.int .i64 52,born:=1 }] 2)) ∧
  (Instr.mapUpdate 100 (.map (some (w.heap.size+1+1))) (.int .u8 89) (.int .i64 53)).run Tryz.prog (((w.alloc (.cells #[.int .i64 0,.int .i64 0,.int .i64 0,.string ⟨#[]⟩,.int .i64 0] 63)).alloc (.cells #[.int .i64 0,.int .i64 0,.int .i64 8,.string ⟨#[]⟩,.int .i64 0] 63)).alloc (.map #[{ key:=.int .u8 81,val:=.int .i64 58,born:=0 },{ key:=.int .u8 88,val:=.int .i64 52,born:=1 }] 2))=.ok () (((w.alloc (.cells #[.int .i64 0,.int .i64 0,.int .i64 0,.string ⟨#[]⟩,.int .i64 0] 63)).alloc (.cells #[.int .i64 0,.int .i64 0,.int .i64 8,.string ⟨#[]⟩,.int .i64 0] 63)).alloc (.map #[{ key:=.int .u8 81,val:=.int .i64 58,born:=0 },{ key:=.int .u8 88,val:=.int .i64 52,born:=1 },{ key:=.int .u8 89,val:=.int .i64 53,born:=2 }] 3)) ∧
  (Instr.mapUpdate 100 (.map (some (w.heap.size+1+1))) (.int .u8 92) (.int .i64 54)).run Tryz.prog (((w.alloc (.cells #[.int .i64 0,.int .i64 0,.int .i64 0,.string ⟨#[]⟩,.int .i64 0] 63)).alloc (.cells #[.int .i64 0,.int .i64 0,.int .i64 8,.string ⟨#[]⟩,.int .i64 0] 63)).alloc (.map #[{ key:=.int .u8 81,val:=.int .i64 58,born:=0 },{ key:=.int .u8 88,val:=.int .i64 52,born:=1 },{ key:=.int .u8 89,val:=.int .i64 53,born:=2 }] 3))=.ok () (((w.alloc (.cells #[.int .i64 0,.int .i64 0,.int .i64 0,.string ⟨#[]⟩,.int .i64 0] 63)).alloc (.cells #[.int .i64 0,.int .i64 0,.int .i64 8,.string ⟨#[]⟩,.int .i64 0] 63)).alloc (.map #[{ key:=.int .u8 81,val:=.int .i64 58,born:=0 },{ key:=.int .u8 88,val:=.int .i64 52,born:=1 },{ key:=.int .u8 89,val:=.int .i64 53,born:=2 },{ key:=.int .u8 92,val:=.int .i64 54,born:=3 }] 4)) ∧
  (Instr.mapUpdate 100 (.map (some (w.heap.size+1+1))) (.int .u8 93) (.int .i64 55)).run Tryz.prog (((w.alloc (.cells #[.int .i64 0,.int .i64 0,.int .i64 0,.string ⟨#[]⟩,.int .i64 0] 63)).alloc (.cells #[.int .i64 0,.int .i64 0,.int .i64 8,.string ⟨#[]⟩,.int .i64 0] 63)).alloc (.map #[{ key:=.int .u8 81,val:=.int .i64 58,born:=0 },{ key:=.int .u8 88,val:=.int .i64 52,born:=1 },{ key:=.int .u8 89,val:=.int .i64 53,born:=2 },{ key:=.int .u8 92,val:=.int .i64 54,born:=3 }] 4))=.ok () (((w.alloc (.cells #[.int .i64 0,.int .i64 0,.int .i64 0,.string ⟨#[]⟩,.int .i64 0] 63)).alloc (.cells #[.int .i64 0,.int .i64 0,.int .i64 8,.string ⟨#[]⟩,.int .i64 0] 63)).alloc (.map #[{ key:=.int .u8 81,val:=.int .i64 58,born:=0 },{ key:=.int .u8 88,val:=.int .i64 52,born:=1 },{ key:=.int .u8 89,val:=.int .i64 53,born:=2 },{ key:=.int .u8 92,val:=.int .i64 54,born:=3 },{ key:=.int .u8 93,val:=.int .i64 55,born:=4 }] 5)) ∧
  (Instr.mapUpdate 100 (.map (some (w.heap.size+1+1))) (.int .u8 94) (.int .i64 56)).run Tryz.prog (((w.alloc (.cells #[.int .i64 0,.int .i64 0,.int .i64 0,.string ⟨#[]⟩,.int .i64 0] 63)).alloc (.cells #[.int .i64 0,.int .i64 0,.int .i64 8,.string ⟨#[]⟩,.int .i64 0] 63)).alloc (.map #[{ key:=.int .u8 81,val:=.int .i64 58,born:=0 },{ key:=.int .u8 88,val:=.int .i64 52,born:=1 },{ key:=.int .u8 89,val:=.int .i64 53,born:=2 },{ key:=.int .u8 92,val:=.int .i64 54,born:=3 },{ key:=.int .u8 93,val:=.int .i64 55,born:=4 }] 5))=.ok () (((w.alloc (.cells #[.int .i64 0,.int .i64 0,.int .i64 0,.string ⟨#[]⟩,.int .i64 0] 63)).alloc (.cells #[.int .i64 0,.int .i64 0,.int .i64 8,.string ⟨#[]⟩,.int .i64 0] 63)).alloc (.map #[{ key:=.int .u8 81,val:=.int .i64 58,born:=0 },{ key:=.int .u8 88,val:=.int .i64 52,born:=1 },{ key:=.int .u8 89,val:=.int .i64 53,born:=2 },{ key:=.int .u8 92,val:=.int .i64 54,born:=3 },{ key:=.int .u8 93,val:=.int .i64 55,born:=4 },{ key:=.int .u8 94,val:=.int .i64 56,born:=5 }] 6)) ∧
  (Instr.mapUpdate 100 (.map (some (w.heap.size+1+1))) (.int .u8 95) (.int .i64 57)).run Tryz.prog (((w.alloc (.cells #[.int .i64 0,.int .i64 0,.int .i64 0,.string ⟨#[]⟩,.int .i64 0] 63)).alloc (.cells #[.int .i64 0,.int .i64 0,.int .i64 8,.string ⟨#[]⟩,.int .i64 0] 63)).alloc (.map #[{ key:=.int .u8 81,val:=.int .i64 58,born:=0 },{ key:=.int .u8 88,val:=.int .i64 52,born:=1 },{ key:=.int .u8 89,val:=.int .i64 53,born:=2 },{ key:=.int .u8 92,val:=.int .i64 54,born:=3 },{ key:=.int .u8 93,val:=.int .i64 55,born:=4 },{ key:=.int .u8 94,val:=.int .i64 56,born:=5 }] 6))=.ok () (((w.alloc (.cells #[.int .i64 0,.int .i64 0,.int .i64 0,.string ⟨#[]⟩,.int .i64 0] 63)).alloc (.cells #[.int .i64 0,.int .i64 0,.int .i64 8,.string ⟨#[]⟩,.int .i64 0] 63)).alloc (.map #[{ key:=.int .u8 81,val:=.int .i64 58,born:=0 },{ key:=.int .u8 88,val:=.int .i64 52,born:=1 },{ key:=.int .u8 89,val:=.int .i64 53,born:=2 },{ key:=.int .u8 92,val:=.int .i64 54,born:=3 },{ key:=.int .u8 93,val:=.int .i64 55,born:=4 },{ key:=.int .u8 94,val:=.int .i64 56,born:=5 },{ key:=.int .u8 95,val:=.int .i64 57,born:=6 }] 7)) ∧
  ∀c v i,Instr.findNow (.int .u8) (.int .u8 c) (#[{ key:=.int .u8 81,val:=.int .i64 58,born:=0 },{ key:=.int .u8 88,val:=.int .i64 52,born:=1 },{ key:=.int .u8 89,val:=.int .i64 53,born:=2 },{ key:=.int .u8 92,val:=.int .i64 54,born:=3 },{ key:=.int .u8 93,val:=.int .i64 55,born:=4 },{ key:=.int .u8 94,val:=.int .i64 56,born:=5 },{ key:=.int .u8 95,val:=.int .i64 57,born:=6 }]:Array MapEntry).toList 0=some (some (i,v))→(Instr.lookup 100 (.map (some (w.heap.size+1+1))) (.int .u8 c) false).run Tryz.prog (((w.alloc (.cells #[.int .i64 0,.int .i64 0,.int .i64 0,.string ⟨#[]⟩,.int .i64 0] 63)).alloc (.cells #[.int .i64 0,.int .i64 0,.int .i64 8,.string ⟨#[]⟩,.int .i64 0] 63)).alloc (.map #[{ key:=.int .u8 81,val:=.int .i64 58,born:=0 },{ key:=.int .u8 88,val:=.int .i64 52,born:=1 },{ key:=.int .u8 89,val:=.int .i64 53,born:=2 },{ key:=.int .u8 92,val:=.int .i64 54,born:=3 },{ key:=.int .u8 93,val:=.int .i64 55,born:=4 },{ key:=.int .u8 94,val:=.int .i64 56,born:=5 },{ key:=.int .u8 95,val:=.int .i64 57,born:=6 }] 7))=.ok v (((w.alloc (.cells #[.int .i64 0,.int .i64 0,.int .i64 0,.string ⟨#[]⟩,.int .i64 0] 63)).alloc (.cells #[.int .i64 0,.int .i64 0,.int .i64 8,.string ⟨#[]⟩,.int .i64 0] 63)).alloc (.map #[{ key:=.int .u8 81,val:=.int .i64 58,born:=0 },{ key:=.int .u8 88,val:=.int .i64 52,born:=1 },{ key:=.int .u8 89,val:=.int .i64 53,born:=2 },{ key:=.int .u8 92,val:=.int .i64 54,born:=3 },{ key:=.int .u8 93,val:=.int .i64 55,born:=4 },{ key:=.int .u8 94,val:=.int .i64 56,born:=5 },{ key:=.int .u8 95,val:=.int .i64 57,born:=6 }] 7)):=
 ⟨litmap_put _ _ (by simp) _ 5 3 .u8 _ 0 81 _ Tryz.underlying100 Tryz.underlying5 rfl,
  litmap_put _ _ (by simp) _ 5 3 .u8 _ 1 88 _ Tryz.underlying100 Tryz.underlying5 rfl,
  litmap_put _ _ (by simp) _ 5 3 .u8 _ 2 89 _ Tryz.underlying100 Tryz.underlying5 rfl,
  litmap_put _ _ (by simp) _ 5 3 .u8 _ 3 92 _ Tryz.underlying100 Tryz.underlying5 rfl,
  litmap_put _ _ (by simp) _ 5 3 .u8 _ 4 93 _ Tryz.underlying100 Tryz.underlying5 rfl,
  litmap_put _ _ (by simp) _ 5 3 .u8 _ 5 94 _ Tryz.underlying100 Tryz.underlying5 rfl,
  litmap_put _ _ (by simp) _ 5 3 .u8 _ 6 95 _ Tryz.underlying100 Tryz.underlying5 rfl,
  fun c v i h=>litmap_get _ _ (by simp) _ 5 3 .u8 _ 7 c v i Tryz.underlying100 Tryz.underlying5 h⟩
set_option maxHeartbeats 8000000
theorem second_242_m(c:Int)(h:c=81∨c=88∨c=89∨c=92∨c=93∨c=94∨c=95)(w:World):Calls Tryz.prog 21 #[.int .u8 242,.int .u8 c] w fun e w'=>e=.returned (secL (secondF 242 c))∧Below w.heap.size w w':=by
 obtain⟨hm0,hm1,hm2,hm3,hm4,hm5,hm6,hG⟩:=s2_maps w
 have hmm:=@run_makeMap Tryz.prog
 have hg0:=hG 81 (.int .i64 58) 0 rfl
 have hg1:=hG 88 (.int .i64 52) 1 rfl
 have hg2:=hG 89 (.int .i64 53) 2 rfl
 have hg3:=hG 92 (.int .i64 54) 3 rfl
 have hg4:=hG 93 (.int .i64 55) 4 rfl
 have hg5:=hG 94 (.int .i64 56) 5 rfl
 have hg6:=hG 95 (.int .i64 57) 6 rfl
 clear hG
 rcases h with rfl|rfl|rfl|rfl|rfl|rfl|rfl
 all_goals
  go_enter Tryz.func21,Tryz.ntmps21
  go_wp2
  go_region
  all_goals
   go_wp2
   go_returns
   refine⟨by rfl,?_⟩
   repeat(first|exact Below.refl _ _|(with_reducible refine Below.drew ?_)|(with_reducible refine below_last ?_ _))
theorem second_242_81(w:World):Calls Tryz.prog 21 #[.int .u8 242,.int .u8 81] w fun e w'=>e=.returned (secL (secondF 242 81))∧Below w.heap.size w w':=second_242_m 81 (by decide) w
theorem second_242_88(w:World):Calls Tryz.prog 21 #[.int .u8 242,.int .u8 88] w fun e w'=>e=.returned (secL (secondF 242 88))∧Below w.heap.size w w':=second_242_m 88 (by decide) w
theorem second_242_89(w:World):Calls Tryz.prog 21 #[.int .u8 242,.int .u8 89] w fun e w'=>e=.returned (secL (secondF 242 89))∧Below w.heap.size w w':=second_242_m 89 (by decide) w
theorem second_242_92(w:World):Calls Tryz.prog 21 #[.int .u8 242,.int .u8 92] w fun e w'=>e=.returned (secL (secondF 242 92))∧Below w.heap.size w w':=second_242_m 92 (by decide) w
theorem second_242_93(w:World):Calls Tryz.prog 21 #[.int .u8 242,.int .u8 93] w fun e w'=>e=.returned (secL (secondF 242 93))∧Below w.heap.size w w':=second_242_m 93 (by decide) w
theorem second_242_94(w:World):Calls Tryz.prog 21 #[.int .u8 242,.int .u8 94] w fun e w'=>e=.returned (secL (secondF 242 94))∧Below w.heap.size w w':=second_242_m 94 (by decide) w
theorem second_242_95(w:World):Calls Tryz.prog 21 #[.int .u8 242,.int .u8 95] w fun e w'=>e=.returned (secL (secondF 242 95))∧Below w.heap.size w w':=second_242_m 95 (by decide) w
theorem second_0_none(c:Int)(c0:0≤c)(c1:c<256)(hs:¬(64≤c∧c<80)∧¬(128≤c∧c<144)∧¬(144≤c∧c<160)∧c≠175∧c≠182∧c≠183∧c≠190∧c≠191)(w:World):Calls Tryz.prog 21 #[.int .u8 0,.int .u8 c] w fun e w'=>e=.returned (secL (secondF 0 c))∧Below w.heap.size w w':=by
 obtain⟨r1,r2,r3,n175,n182,n183,n190,n191⟩:=hs
 have HX:=Lib.hid (show secondF 0 c=(nilF,false)by unfold secondF;rw[if_pos rfl];repeat(rw[if_neg (by omega)]))
 have a15:=and15 c c0 c1
 have w15:IntKind.i64.wrap (c%16)=c%16:=by rw[IntKind.wrap_i64];omega
 have e175:(c==175)=false:=by rw[beq_eq_false_iff_ne];exact n175
 have e182:(c==182)=false:=by rw[beq_eq_false_iff_ne];exact n182
 have e183:(c==183)=false:=by rw[beq_eq_false_iff_ne];exact n183
 have e190:(c==190)=false:=by rw[beq_eq_false_iff_ne];exact n190
 have e191:(c==191)=false:=by rw[beq_eq_false_iff_ne];exact n191
 clear n175 n182 n183 n190 n191
 have hc:c<64∨(80≤c∧c<128)∨160≤c:=by omega
 clear r1 r2 r3
 rcases hc with h|⟨h,h'⟩|h
 ·have g64:decide (64≤c)=false:=decide_eq_false (by omega)
  have l64:decide (c<64)=true:=decide_eq_true (by omega)
  have g80:decide (80≤c)=false:=decide_eq_false (by omega)
  have l80:decide (c<80)=true:=decide_eq_true (by omega)
  have g128:decide (128≤c)=false:=decide_eq_false (by omega)
  have l128:decide (c<128)=true:=decide_eq_true (by omega)
  have g144:decide (144≤c)=false:=decide_eq_false (by omega)
  have l144:decide (c<144)=true:=decide_eq_true (by omega)
  have g160:decide (160≤c)=false:=decide_eq_false (by omega)
  have l160:decide (c<160)=true:=decide_eq_true (by omega)
  go_enter Tryz.func21,Tryz.ntmps21
  go_wp2
  go_region
  all_goals
   go_wp2
   go_returns
   refine⟨by rw[HX.out];rfl,?_⟩
   repeat(first|exact Below.refl _ _|(with_reducible refine Below.drew ?_)|(with_reducible refine below_last ?_ _))
 ·have g64:decide (64≤c)=true:=decide_eq_true (by omega)
  have l64:decide (c<64)=false:=decide_eq_false (by omega)
  have g80:decide (80≤c)=true:=decide_eq_true (by omega)
  have l80:decide (c<80)=false:=decide_eq_false (by omega)
  have g128:decide (128≤c)=false:=decide_eq_false (by omega)
  have l128:decide (c<128)=true:=decide_eq_true (by omega)
  have g144:decide (144≤c)=false:=decide_eq_false (by omega)
  have l144:decide (c<144)=true:=decide_eq_true (by omega)
  have g160:decide (160≤c)=false:=decide_eq_false (by omega)
  have l160:decide (c<160)=true:=decide_eq_true (by omega)
  go_enter Tryz.func21,Tryz.ntmps21
  go_wp2
  go_region
  all_goals
   go_wp2
   go_returns
   refine⟨by rw[HX.out];rfl,?_⟩
   repeat(first|exact Below.refl _ _|(with_reducible refine Below.drew ?_)|(with_reducible refine below_last ?_ _))
 ·have g64:decide (64≤c)=true:=decide_eq_true (by omega)
  have l64:decide (c<64)=false:=decide_eq_false (by omega)
  have g80:decide (80≤c)=true:=decide_eq_true (by omega)
  have l80:decide (c<80)=false:=decide_eq_false (by omega)
  have g128:decide (128≤c)=true:=decide_eq_true (by omega)
  have l128:decide (c<128)=false:=decide_eq_false (by omega)
  have g144:decide (144≤c)=true:=decide_eq_true (by omega)
  have l144:decide (c<144)=false:=decide_eq_false (by omega)
  have g160:decide (160≤c)=true:=decide_eq_true (by omega)
  have l160:decide (c<160)=false:=decide_eq_false (by omega)
  go_enter Tryz.func21,Tryz.ntmps21
  go_wp2
  go_region
  all_goals
   go_wp2
   go_returns
   refine⟨by rw[HX.out];rfl,?_⟩
   repeat(first|exact Below.refl _ _|(with_reducible refine Below.drew ?_)|(with_reducible refine below_last ?_ _))
theorem second_242_none(c:Int)(c0:0≤c)(c1:c<256)(hs:c≠16∧c≠17∧c≠42∧c≠44∧c≠81∧c≠88∧c≠89∧c≠92∧c≠93∧c≠94∧c≠95)(w:World):Calls Tryz.prog 21 #[.int .u8 242,.int .u8 c] w fun e w'=>e=.returned (secL (secondF 242 c))∧Below w.heap.size w w':=by
 obtain⟨n16,n17,n42,n44,n81,n88,n89,n92,n93,n94,n95⟩:=hs
 have HX:=Lib.hid (show secondF 242 c=(⟨0,0,8,[],0⟩,false)by unfold secondF;rw[if_neg (by decide),if_pos rfl];repeat(rw[if_neg (by omega)]))
 have a15:=and15 c c0 c1
 have w15:IntKind.i64.wrap (c%16)=c%16:=by rw[IntKind.wrap_i64];omega
 have e16:(c==16)=false:=by rw[beq_eq_false_iff_ne];exact n16
 have e17:(c==17)=false:=by rw[beq_eq_false_iff_ne];exact n17
 have e42:(c==42)=false:=by rw[beq_eq_false_iff_ne];exact n42
 have e44:(c==44)=false:=by rw[beq_eq_false_iff_ne];exact n44
 have e81:(c==81)=false:=by rw[beq_eq_false_iff_ne];exact n81
 have e88:(c==88)=false:=by rw[beq_eq_false_iff_ne];exact n88
 have e89:(c==89)=false:=by rw[beq_eq_false_iff_ne];exact n89
 have e92:(c==92)=false:=by rw[beq_eq_false_iff_ne];exact n92
 have e93:(c==93)=false:=by rw[beq_eq_false_iff_ne];exact n93
 have e94:(c==94)=false:=by rw[beq_eq_false_iff_ne];exact n94
 have e95:(c==95)=false:=by rw[beq_eq_false_iff_ne];exact n95
 clear n16 n17 n42 n44 n81 n88 n89 n92 n93 n94 n95
 go_enter Tryz.func21,Tryz.ntmps21
 go_wp2
 go_region
 all_goals
  go_wp2
  go_returns
  refine⟨by rw[HX.out];rfl,?_⟩
  repeat(first|exact Below.refl _ _|(with_reducible refine Below.drew ?_)|(with_reducible refine below_last ?_ _))
theorem second_102_none(c:Int)(c0:0≤c)(c1:c<256)(hs:c≠46)(w:World):Calls Tryz.prog 21 #[.int .u8 102,.int .u8 c] w fun e w'=>e=.returned (secL (secondF 102 c))∧Below w.heap.size w w':=by
 have n46:=hs
 have HX:=Lib.hid (show secondF 102 c=(nilF,false)by unfold secondF;rw[if_neg (by decide),if_neg (by decide)];repeat(rw[if_neg (by omega)]))
 have a15:=and15 c c0 c1
 have w15:IntKind.i64.wrap (c%16)=c%16:=by rw[IntKind.wrap_i64];omega
 have e46:(c==46)=false:=by rw[beq_eq_false_iff_ne];exact n46
 clear n46 hs
 go_enter Tryz.func21,Tryz.ntmps21
 go_wp2
 go_region
 all_goals
  go_wp2
  go_returns
  refine⟨by rw[HX.out];rfl,?_⟩
  repeat(first|exact Below.refl _ _|(with_reducible refine Below.drew ?_)|(with_reducible refine below_last ?_ _))
theorem second_any(p c:Int)(hp:p=0∨p=242∨p=102)(c0:0≤c)(c1:c<256)(w:World):Calls Tryz.prog 21 #[.int .u8 p,.int .u8 c] w fun e w'=>e=.returned (secL (secondF p c))∧Below w.heap.size w w':=by
 rcases hp with rfl|rfl|rfl
 ·by_cases r1:64≤c∧c<80
  ·exact second_r64 c r1.1 r1.2 w
  by_cases r2:128≤c∧c<144
  ·exact second_r128 c r2.1 r2.2 w
  by_cases r3:144≤c∧c<160
  ·exact second_r144 c r3.1 r3.2 w
  by_cases n175:c=175
  ·subst n175;exact second_0_175 w
  by_cases n182:c=182
  ·subst n182;exact second_0_182 w
  by_cases n183:c=183
  ·subst n183;exact second_0_183 w
  by_cases n190:c=190
  ·subst n190;exact second_0_190 w
  by_cases n191:c=191
  ·subst n191;exact second_0_191 w
  exact second_0_none c c0 c1 ⟨r1,r2,r3,n175,n182,n183,n190,n191⟩ w
 ·skip
  by_cases n16:c=16
  ·subst n16;exact second_242_16 w
  by_cases n17:c=17
  ·subst n17;exact second_242_17 w
  by_cases n42:c=42
  ·subst n42;exact second_242_42 w
  by_cases n44:c=44
  ·subst n44;exact second_242_44 w
  by_cases n81:c=81
  ·subst n81;exact second_242_81 w
  by_cases n88:c=88
  ·subst n88;exact second_242_88 w
  by_cases n89:c=89
  ·subst n89;exact second_242_89 w
  by_cases n92:c=92
  ·subst n92;exact second_242_92 w
  by_cases n93:c=93
  ·subst n93;exact second_242_93 w
  by_cases n94:c=94
  ·subst n94;exact second_242_94 w
  by_cases n95:c=95
  ·subst n95;exact second_242_95 w
  exact second_242_none c c0 c1 ⟨n16,n17,n42,n44,n81,n88,n89,n92,n93,n94,n95⟩ w
 ·by_cases n46:c=46
  ·subst n46;exact second_102_46 w
  ·exact second_102_none c c0 c1 n46 w
end Go.Proofs.YtmdncgfheeijaaaGreat
