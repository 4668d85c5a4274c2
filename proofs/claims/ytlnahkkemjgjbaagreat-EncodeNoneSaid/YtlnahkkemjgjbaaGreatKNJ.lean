import Derived.Test.YtlnahkkemjgjbaaGreatKNI
namespace Go.Proofs.YtlnahkkemjgjbaaGreat
open Go.ChangeShapes Go.WideShapes Go.ChangeAt Go.RowKit
section
attribute [local go_sem] isSome_setCell
set_option maxRecDepth 100000
set_option maxHeartbeats 1000000
theorem dcho_128 (r:Int) (r0:0 ≤ r) (r1:r < 8) (w:World):Calls Tryz.prog 72 #[.int .i64 128,.int .i64 r] w fun e w'=>e=.returned (.int .i64 (choL 128 r))∧Below w.heap.size w w':=by
  go_enter Tryz.func72,Tryz.ntmps72
  go_wp2
  go_ret
  exact ⟨rfl,Below.refl _ _⟩
theorem dcho_129 (r:Int) (r0:0 ≤ r) (r1:r < 8) (w:World):Calls Tryz.prog 72 #[.int .i64 129,.int .i64 r] w fun e w'=>e=.returned (.int .i64 (choL 129 r))∧Below w.heap.size w w':=by
  go_enter Tryz.func72,Tryz.ntmps72
  go_wp2
  go_ret
  exact ⟨rfl,Below.refl _ _⟩
theorem dcho_131 (r:Int) (r0:0 ≤ r) (r1:r < 8) (w:World):Calls Tryz.prog 72 #[.int .i64 131,.int .i64 r] w fun e w'=>e=.returned (.int .i64 (choL 131 r))∧Below w.heap.size w w':=by
  go_enter Tryz.func72,Tryz.ntmps72
  go_wp2
  go_ret
  exact ⟨rfl,Below.refl _ _⟩
theorem dcho_143 (r:Int) (_:0 ≤ r) (_:r < 8) (w:World):Calls Tryz.prog 72 #[.int .i64 143,.int .i64 r] w fun e w'=>e=.returned (.int .i64 (choL 143 r))∧Below w.heap.size w w':=by
  have hmm:=@run_makeMap Tryz.prog
  have hm0:(Instr.mapUpdate 106 (.map (some (w.heap.size))) (.int .i64 0) (.int .i64 24)).run Tryz.prog (w.alloc (.map #[] 0))=.ok () (w.alloc (.map #[{ key:=.int .i64 0,val:=.int .i64 24,born:=0 }] 1)):=litmap_put _ _ (by simp) _ 3 3 .i64 #[] 0 0 _ Tryz.underlying106 Tryz.underlying3 rfl
  have hmg:(Instr.lookup 106 (.map (some (w.heap.size))) (.int .i64 r) false).run Tryz.prog (w.alloc (.map #[{ key:=.int .i64 0,val:=.int .i64 24,born:=0 }] 1))=.ok (.int .i64 (choL 143 r)) (w.alloc (.map #[{ key:=.int .i64 0,val:=.int .i64 24,born:=0 }] 1)):=by
    rw [show (choL 143 r)=pickE r [(0,24)] from rfl]
    exact intmap_get w _ (by simp) _ 3 3 [(0,24)] 1 r Tryz.underlying106 Tryz.underlying3 zero_int
  have HV:=Lib.hid (rfl:choL 143 r=choL 143 r)
  generalize hg:choL 143 r=V at *
  clear hg HV
  go_enter Tryz.func72,Tryz.ntmps72
  go_wp2
  go_ret
  exact ⟨rfl,BC.h⟩
set_option maxHeartbeats 8000000
theorem dcho_b (c r:Int) (hc:c=193 ∨ c=209 ∨ c=211)   (w:World):Calls Tryz.prog 72 #[.int .i64 c,.int .i64 r] w fun e w'=>e=.returned (.int .i64 (choL c r))∧Below w.heap.size w w':=by
  have hmm:=@run_makeMap Tryz.prog
  have hm0:(Instr.mapUpdate 106 (.map (some (w.heap.size))) (.int .i64 0) (.int .i64 26)).run Tryz.prog (w.alloc (.map #[] 0))=.ok () (w.alloc (.map #[{ key:=.int .i64 0,val:=.int .i64 26,born:=0 }] 1)):=litmap_put _ _ (by simp) _ 3 3 .i64 #[] 0 0 _ Tryz.underlying106 Tryz.underlying3 rfl
  have hm1:(Instr.mapUpdate 106 (.map (some (w.heap.size))) (.int .i64 1) (.int .i64 27)).run Tryz.prog (w.alloc (.map #[{ key:=.int .i64 0,val:=.int .i64 26,born:=0 }] 1))=.ok () (w.alloc (.map #[{ key:=.int .i64 0,val:=.int .i64 26,born:=0 },{ key:=.int .i64 1,val:=.int .i64 27,born:=1 }] 2)):=litmap_put _ _ (by simp) _ 3 3 .i64 #[{ key:=.int .i64 0,val:=.int .i64 26,born:=0 }] 1 1 _ Tryz.underlying106 Tryz.underlying3 rfl
  have hm2:(Instr.mapUpdate 106 (.map (some (w.heap.size))) (.int .i64 4) (.int .i64 28)).run Tryz.prog (w.alloc (.map #[{ key:=.int .i64 0,val:=.int .i64 26,born:=0 },{ key:=.int .i64 1,val:=.int .i64 27,born:=1 }] 2))=.ok () (w.alloc (.map #[{ key:=.int .i64 0,val:=.int .i64 26,born:=0 },{ key:=.int .i64 1,val:=.int .i64 27,born:=1 },{ key:=.int .i64 4,val:=.int .i64 28,born:=2 }] 3)):=litmap_put _ _ (by simp) _ 3 3 .i64 #[{ key:=.int .i64 0,val:=.int .i64 26,born:=0 },{ key:=.int .i64 1,val:=.int .i64 27,born:=1 }] 2 4 _ Tryz.underlying106 Tryz.underlying3 rfl
  have hm3:(Instr.mapUpdate 106 (.map (some (w.heap.size))) (.int .i64 5) (.int .i64 29)).run Tryz.prog (w.alloc (.map #[{ key:=.int .i64 0,val:=.int .i64 26,born:=0 },{ key:=.int .i64 1,val:=.int .i64 27,born:=1 },{ key:=.int .i64 4,val:=.int .i64 28,born:=2 }] 3))=.ok () (w.alloc (.map #[{ key:=.int .i64 0,val:=.int .i64 26,born:=0 },{ key:=.int .i64 1,val:=.int .i64 27,born:=1 },{ key:=.int .i64 4,val:=.int .i64 28,born:=2 },{ key:=.int .i64 5,val:=.int .i64 29,born:=3 }] 4)):=litmap_put _ _ (by simp) _ 3 3 .i64 #[{ key:=.int .i64 0,val:=.int .i64 26,born:=0 },{ key:=.int .i64 1,val:=.int .i64 27,born:=1 },{ key:=.int .i64 4,val:=.int .i64 28,born:=2 }] 3 5 _ Tryz.underlying106 Tryz.underlying3 rfl
  have hm4:(Instr.mapUpdate 106 (.map (some (w.heap.size))) (.int .i64 7) (.int .i64 30)).run Tryz.prog (w.alloc (.map #[{ key:=.int .i64 0,val:=.int .i64 26,born:=0 },{ key:=.int .i64 1,val:=.int .i64 27,born:=1 },{ key:=.int .i64 4,val:=.int .i64 28,born:=2 },{ key:=.int .i64 5,val:=.int .i64 29,born:=3 }] 4))=.ok () (w.alloc (.map #[{ key:=.int .i64 0,val:=.int .i64 26,born:=0 },{ key:=.int .i64 1,val:=.int .i64 27,born:=1 },{ key:=.int .i64 4,val:=.int .i64 28,born:=2 },{ key:=.int .i64 5,val:=.int .i64 29,born:=3 },{ key:=.int .i64 7,val:=.int .i64 30,born:=4 }] 5)):=litmap_put _ _ (by simp) _ 3 3 .i64 #[{ key:=.int .i64 0,val:=.int .i64 26,born:=0 },{ key:=.int .i64 1,val:=.int .i64 27,born:=1 },{ key:=.int .i64 4,val:=.int .i64 28,born:=2 },{ key:=.int .i64 5,val:=.int .i64 29,born:=3 }] 4 7 _ Tryz.underlying106 Tryz.underlying3 rfl
  have hmg:(Instr.lookup 106 (.map (some (w.heap.size))) (.int .i64 r) false).run Tryz.prog (w.alloc (.map #[{ key:=.int .i64 0,val:=.int .i64 26,born:=0 },{ key:=.int .i64 1,val:=.int .i64 27,born:=1 },{ key:=.int .i64 4,val:=.int .i64 28,born:=2 },{ key:=.int .i64 5,val:=.int .i64 29,born:=3 },{ key:=.int .i64 7,val:=.int .i64 30,born:=4 }] 5))=.ok (.int .i64 (choL c r)) (w.alloc (.map #[{ key:=.int .i64 0,val:=.int .i64 26,born:=0 },{ key:=.int .i64 1,val:=.int .i64 27,born:=1 },{ key:=.int .i64 4,val:=.int .i64 28,born:=2 },{ key:=.int .i64 5,val:=.int .i64 29,born:=3 },{ key:=.int .i64 7,val:=.int .i64 30,born:=4 }] 5)):=by
    rw [show (choL c r)=pickE r [(0,26),(1,27),(4,28),(5,29),(7,30)] from by rcases hc with rfl | rfl | rfl <;> rfl]
    exact intmap_get w _ (by simp) _ 3 3 [(0,26),(1,27),(4,28),(5,29),(7,30)] 5 r Tryz.underlying106 Tryz.underlying3 zero_int
  have HV:=Lib.hid (rfl:choL c r=choL c r)
  generalize hg:choL c r=V at *
  clear hg HV
  rcases hc with hc | hc | hc
  all_goals
    first | (have t128:(c == 128)=false:=by rw [hc];rfl) | (have t128:(c == 128)=true:=by rw [hc];rfl)
    first | (have t129:(c == 129)=false:=by rw [hc];rfl) | (have t129:(c == 129)=true:=by rw [hc];rfl)
    first | (have t131:(c == 131)=false:=by rw [hc];rfl) | (have t131:(c == 131)=true:=by rw [hc];rfl)
    first | (have t143:(c == 143)=false:=by rw [hc];rfl) | (have t143:(c == 143)=true:=by rw [hc];rfl)
    first | (have t193:(c == 193)=false:=by rw [hc];rfl) | (have t193:(c == 193)=true:=by rw [hc];rfl)
    first | (have t198:(c == 198)=false:=by rw [hc];rfl) | (have t198:(c == 198)=true:=by rw [hc];rfl)
    first | (have t199:(c == 199)=false:=by rw [hc];rfl) | (have t199:(c == 199)=true:=by rw [hc];rfl)
    first | (have t209:(c == 209)=false:=by rw [hc];rfl) | (have t209:(c == 209)=true:=by rw [hc];rfl)
    first | (have t211:(c == 211)=false:=by rw [hc];rfl) | (have t211:(c == 211)=true:=by rw [hc];rfl)
    first | (have t246:(c == 246)=false:=by rw [hc];rfl) | (have t246:(c == 246)=true:=by rw [hc];rfl)
    first | (have t247:(c == 247)=false:=by rw [hc];rfl) | (have t247:(c == 247)=true:=by rw [hc];rfl)
    first | (have t254:(c == 254)=false:=by rw [hc];rfl) | (have t254:(c == 254)=true:=by rw [hc];rfl)
    first | (have t255:(c == 255)=false:=by rw [hc];rfl) | (have t255:(c == 255)=true:=by rw [hc];rfl)
    clear hc
    go_enter Tryz.func72,Tryz.ntmps72
    go_wp2
    go_ret
    exact ⟨rfl,BC.h⟩
set_option maxRecDepth 512
theorem dcho_193 (r:Int) (_:0 ≤ r) (_:r < 8) (w:World):Calls Tryz.prog 72 #[.int .i64 193,.int .i64 r] w fun e w'=>e=.returned (.int .i64 (choL 193 r))∧Below w.heap.size w w':=dcho_b 193 r (by decide) w
theorem dcho_209 (r:Int) (_:0 ≤ r) (_:r < 8) (w:World):Calls Tryz.prog 72 #[.int .i64 209,.int .i64 r] w fun e w'=>e=.returned (.int .i64 (choL 209 r))∧Below w.heap.size w w':=dcho_b 209 r (by decide) w
theorem dcho_211 (r:Int) (_:0 ≤ r) (_:r < 8) (w:World):Calls Tryz.prog 72 #[.int .i64 211,.int .i64 r] w fun e w'=>e=.returned (.int .i64 (choL 211 r))∧Below w.heap.size w w':=dcho_b 211 r (by decide) w
set_option maxRecDepth 100000
theorem dcho_c (c r:Int) (hc:c=198 ∨ c=199)   (w:World):Calls Tryz.prog 72 #[.int .i64 c,.int .i64 r] w fun e w'=>e=.returned (.int .i64 (choL c r))∧Below w.heap.size w w':=by
  have hmm:=@run_makeMap Tryz.prog
  have hm0:(Instr.mapUpdate 106 (.map (some (w.heap.size))) (.int .i64 0) (.int .i64 18)).run Tryz.prog (w.alloc (.map #[] 0))=.ok () (w.alloc (.map #[{ key:=.int .i64 0,val:=.int .i64 18,born:=0 }] 1)):=litmap_put _ _ (by simp) _ 3 3 .i64 #[] 0 0 _ Tryz.underlying106 Tryz.underlying3 rfl
  have hmg:(Instr.lookup 106 (.map (some (w.heap.size))) (.int .i64 r) false).run Tryz.prog (w.alloc (.map #[{ key:=.int .i64 0,val:=.int .i64 18,born:=0 }] 1))=.ok (.int .i64 (choL c r)) (w.alloc (.map #[{ key:=.int .i64 0,val:=.int .i64 18,born:=0 }] 1)):=by
    rw [show (choL c r)=pickE r [(0,18)] from by rcases hc with rfl | rfl <;> rfl]
    exact intmap_get w _ (by simp) _ 3 3 [(0,18)] 1 r Tryz.underlying106 Tryz.underlying3 zero_int
  have HV:=Lib.hid (rfl:choL c r=choL c r)
  generalize hg:choL c r=V at *
  clear hg HV
  rcases hc with hc | hc
  all_goals
    first | (have t128:(c == 128)=false:=by rw [hc];rfl) | (have t128:(c == 128)=true:=by rw [hc];rfl)
    first | (have t129:(c == 129)=false:=by rw [hc];rfl) | (have t129:(c == 129)=true:=by rw [hc];rfl)
    first | (have t131:(c == 131)=false:=by rw [hc];rfl) | (have t131:(c == 131)=true:=by rw [hc];rfl)
    first | (have t143:(c == 143)=false:=by rw [hc];rfl) | (have t143:(c == 143)=true:=by rw [hc];rfl)
    first | (have t193:(c == 193)=false:=by rw [hc];rfl) | (have t193:(c == 193)=true:=by rw [hc];rfl)
    first | (have t198:(c == 198)=false:=by rw [hc];rfl) | (have t198:(c == 198)=true:=by rw [hc];rfl)
    first | (have t199:(c == 199)=false:=by rw [hc];rfl) | (have t199:(c == 199)=true:=by rw [hc];rfl)
    first | (have t209:(c == 209)=false:=by rw [hc];rfl) | (have t209:(c == 209)=true:=by rw [hc];rfl)
    first | (have t211:(c == 211)=false:=by rw [hc];rfl) | (have t211:(c == 211)=true:=by rw [hc];rfl)
    first | (have t246:(c == 246)=false:=by rw [hc];rfl) | (have t246:(c == 246)=true:=by rw [hc];rfl)
    first | (have t247:(c == 247)=false:=by rw [hc];rfl) | (have t247:(c == 247)=true:=by rw [hc];rfl)
    first | (have t254:(c == 254)=false:=by rw [hc];rfl) | (have t254:(c == 254)=true:=by rw [hc];rfl)
    first | (have t255:(c == 255)=false:=by rw [hc];rfl) | (have t255:(c == 255)=true:=by rw [hc];rfl)
    clear hc
    go_enter Tryz.func72,Tryz.ntmps72
    go_wp2
    go_ret
    exact ⟨rfl,BC.h⟩
set_option maxRecDepth 512
theorem dcho_198 (r:Int) (_:0 ≤ r) (_:r < 8) (w:World):Calls Tryz.prog 72 #[.int .i64 198,.int .i64 r] w fun e w'=>e=.returned (.int .i64 (choL 198 r))∧Below w.heap.size w w':=dcho_c 198 r (by decide) w
theorem dcho_199 (r:Int) (_:0 ≤ r) (_:r < 8) (w:World):Calls Tryz.prog 72 #[.int .i64 199,.int .i64 r] w fun e w'=>e=.returned (.int .i64 (choL 199 r))∧Below w.heap.size w w':=dcho_c 199 r (by decide) w
set_option maxRecDepth 100000
theorem dcho_246 (r:Int) (_:0 ≤ r) (_:r < 8) (w:World):Calls Tryz.prog 72 #[.int .i64 246,.int .i64 r] w fun e w'=>e=.returned (.int .i64 (choL 246 r))∧Below w.heap.size w w':=by
  have hmm:=@run_makeMap Tryz.prog
  have hm0:(Instr.mapUpdate 106 (.map (some (w.heap.size))) (.int .i64 0) (.int .i64 9)).run Tryz.prog (w.alloc (.map #[] 0))=.ok () (w.alloc (.map #[{ key:=.int .i64 0,val:=.int .i64 9,born:=0 }] 1)):=litmap_put _ _ (by simp) _ 3 3 .i64 #[] 0 0 _ Tryz.underlying106 Tryz.underlying3 rfl
  have hm1:(Instr.mapUpdate 106 (.map (some (w.heap.size))) (.int .i64 2) (.int .i64 10)).run Tryz.prog (w.alloc (.map #[{ key:=.int .i64 0,val:=.int .i64 9,born:=0 }] 1))=.ok () (w.alloc (.map #[{ key:=.int .i64 0,val:=.int .i64 9,born:=0 },{ key:=.int .i64 2,val:=.int .i64 10,born:=1 }] 2)):=litmap_put _ _ (by simp) _ 3 3 .i64 #[{ key:=.int .i64 0,val:=.int .i64 9,born:=0 }] 1 2 _ Tryz.underlying106 Tryz.underlying3 rfl
  have hm2:(Instr.mapUpdate 106 (.map (some (w.heap.size))) (.int .i64 3) (.int .i64 11)).run Tryz.prog (w.alloc (.map #[{ key:=.int .i64 0,val:=.int .i64 9,born:=0 },{ key:=.int .i64 2,val:=.int .i64 10,born:=1 }] 2))=.ok () (w.alloc (.map #[{ key:=.int .i64 0,val:=.int .i64 9,born:=0 },{ key:=.int .i64 2,val:=.int .i64 10,born:=1 },{ key:=.int .i64 3,val:=.int .i64 11,born:=2 }] 3)):=litmap_put _ _ (by simp) _ 3 3 .i64 #[{ key:=.int .i64 0,val:=.int .i64 9,born:=0 },{ key:=.int .i64 2,val:=.int .i64 10,born:=1 }] 2 3 _ Tryz.underlying106 Tryz.underlying3 rfl
  have hmg:(Instr.lookup 106 (.map (some (w.heap.size))) (.int .i64 r) false).run Tryz.prog (w.alloc (.map #[{ key:=.int .i64 0,val:=.int .i64 9,born:=0 },{ key:=.int .i64 2,val:=.int .i64 10,born:=1 },{ key:=.int .i64 3,val:=.int .i64 11,born:=2 }] 3))=.ok (.int .i64 (choL 246 r)) (w.alloc (.map #[{ key:=.int .i64 0,val:=.int .i64 9,born:=0 },{ key:=.int .i64 2,val:=.int .i64 10,born:=1 },{ key:=.int .i64 3,val:=.int .i64 11,born:=2 }] 3)):=by
    rw [show (choL 246 r)=pickE r [(0,9),(2,10),(3,11)] from rfl]
    exact intmap_get w _ (by simp) _ 3 3 [(0,9),(2,10),(3,11)] 3 r Tryz.underlying106 Tryz.underlying3 zero_int
  have HV:=Lib.hid (rfl:choL 246 r=choL 246 r)
  generalize hg:choL 246 r=V at *
  clear hg HV
  go_enter Tryz.func72,Tryz.ntmps72
  go_wp2
  go_ret
  exact ⟨rfl,BC.h⟩
theorem dcho_247 (r:Int) (_:0 ≤ r) (_:r < 8) (w:World):Calls Tryz.prog 72 #[.int .i64 247,.int .i64 r] w fun e w'=>e=.returned (.int .i64 (choL 247 r))∧Below w.heap.size w w':=by
  have hmm:=@run_makeMap Tryz.prog
  have hm0:(Instr.mapUpdate 106 (.map (some (w.heap.size))) (.int .i64 0) (.int .i64 9)).run Tryz.prog (w.alloc (.map #[] 0))=.ok () (w.alloc (.map #[{ key:=.int .i64 0,val:=.int .i64 9,born:=0 }] 1)):=litmap_put _ _ (by simp) _ 3 3 .i64 #[] 0 0 _ Tryz.underlying106 Tryz.underlying3 rfl
  have hm1:(Instr.mapUpdate 106 (.map (some (w.heap.size))) (.int .i64 2) (.int .i64 10)).run Tryz.prog (w.alloc (.map #[{ key:=.int .i64 0,val:=.int .i64 9,born:=0 }] 1))=.ok () (w.alloc (.map #[{ key:=.int .i64 0,val:=.int .i64 9,born:=0 },{ key:=.int .i64 2,val:=.int .i64 10,born:=1 }] 2)):=litmap_put _ _ (by simp) _ 3 3 .i64 #[{ key:=.int .i64 0,val:=.int .i64 9,born:=0 }] 1 2 _ Tryz.underlying106 Tryz.underlying3 rfl
  have hm2:(Instr.mapUpdate 106 (.map (some (w.heap.size))) (.int .i64 3) (.int .i64 11)).run Tryz.prog (w.alloc (.map #[{ key:=.int .i64 0,val:=.int .i64 9,born:=0 },{ key:=.int .i64 2,val:=.int .i64 10,born:=1 }] 2))=.ok () (w.alloc (.map #[{ key:=.int .i64 0,val:=.int .i64 9,born:=0 },{ key:=.int .i64 2,val:=.int .i64 10,born:=1 },{ key:=.int .i64 3,val:=.int .i64 11,born:=2 }] 3)):=litmap_put _ _ (by simp) _ 3 3 .i64 #[{ key:=.int .i64 0,val:=.int .i64 9,born:=0 },{ key:=.int .i64 2,val:=.int .i64 10,born:=1 }] 2 3 _ Tryz.underlying106 Tryz.underlying3 rfl
  have hm3:(Instr.mapUpdate 106 (.map (some (w.heap.size))) (.int .i64 4) (.int .i64 12)).run Tryz.prog (w.alloc (.map #[{ key:=.int .i64 0,val:=.int .i64 9,born:=0 },{ key:=.int .i64 2,val:=.int .i64 10,born:=1 },{ key:=.int .i64 3,val:=.int .i64 11,born:=2 }] 3))=.ok () (w.alloc (.map #[{ key:=.int .i64 0,val:=.int .i64 9,born:=0 },{ key:=.int .i64 2,val:=.int .i64 10,born:=1 },{ key:=.int .i64 3,val:=.int .i64 11,born:=2 },{ key:=.int .i64 4,val:=.int .i64 12,born:=3 }] 4)):=litmap_put _ _ (by simp) _ 3 3 .i64 #[{ key:=.int .i64 0,val:=.int .i64 9,born:=0 },{ key:=.int .i64 2,val:=.int .i64 10,born:=1 },{ key:=.int .i64 3,val:=.int .i64 11,born:=2 }] 3 4 _ Tryz.underlying106 Tryz.underlying3 rfl
  have hm4:(Instr.mapUpdate 106 (.map (some (w.heap.size))) (.int .i64 5) (.int .i64 13)).run Tryz.prog (w.alloc (.map #[{ key:=.int .i64 0,val:=.int .i64 9,born:=0 },{ key:=.int .i64 2,val:=.int .i64 10,born:=1 },{ key:=.int .i64 3,val:=.int .i64 11,born:=2 },{ key:=.int .i64 4,val:=.int .i64 12,born:=3 }] 4))=.ok () (w.alloc (.map #[{ key:=.int .i64 0,val:=.int .i64 9,born:=0 },{ key:=.int .i64 2,val:=.int .i64 10,born:=1 },{ key:=.int .i64 3,val:=.int .i64 11,born:=2 },{ key:=.int .i64 4,val:=.int .i64 12,born:=3 },{ key:=.int .i64 5,val:=.int .i64 13,born:=4 }] 5)):=litmap_put _ _ (by simp) _ 3 3 .i64 #[{ key:=.int .i64 0,val:=.int .i64 9,born:=0 },{ key:=.int .i64 2,val:=.int .i64 10,born:=1 },{ key:=.int .i64 3,val:=.int .i64 11,born:=2 },{ key:=.int .i64 4,val:=.int .i64 12,born:=3 }] 4 5 _ Tryz.underlying106 Tryz.underlying3 rfl
  have hm5:(Instr.mapUpdate 106 (.map (some (w.heap.size))) (.int .i64 6) (.int .i64 14)).run Tryz.prog (w.alloc (.map #[{ key:=.int .i64 0,val:=.int .i64 9,born:=0 },{ key:=.int .i64 2,val:=.int .i64 10,born:=1 },{ key:=.int .i64 3,val:=.int .i64 11,born:=2 },{ key:=.int .i64 4,val:=.int .i64 12,born:=3 },{ key:=.int .i64 5,val:=.int .i64 13,born:=4 }] 5))=.ok () (w.alloc (.map #[{ key:=.int .i64 0,val:=.int .i64 9,born:=0 },{ key:=.int .i64 2,val:=.int .i64 10,born:=1 },{ key:=.int .i64 3,val:=.int .i64 11,born:=2 },{ key:=.int .i64 4,val:=.int .i64 12,born:=3 },{ key:=.int .i64 5,val:=.int .i64 13,born:=4 },{ key:=.int .i64 6,val:=.int .i64 14,born:=5 }] 6)):=litmap_put _ _ (by simp) _ 3 3 .i64 #[{ key:=.int .i64 0,val:=.int .i64 9,born:=0 },{ key:=.int .i64 2,val:=.int .i64 10,born:=1 },{ key:=.int .i64 3,val:=.int .i64 11,born:=2 },{ key:=.int .i64 4,val:=.int .i64 12,born:=3 },{ key:=.int .i64 5,val:=.int .i64 13,born:=4 }] 5 6 _ Tryz.underlying106 Tryz.underlying3 rfl
  have hm6:(Instr.mapUpdate 106 (.map (some (w.heap.size))) (.int .i64 7) (.int .i64 15)).run Tryz.prog (w.alloc (.map #[{ key:=.int .i64 0,val:=.int .i64 9,born:=0 },{ key:=.int .i64 2,val:=.int .i64 10,born:=1 },{ key:=.int .i64 3,val:=.int .i64 11,born:=2 },{ key:=.int .i64 4,val:=.int .i64 12,born:=3 },{ key:=.int .i64 5,val:=.int .i64 13,born:=4 },{ key:=.int .i64 6,val:=.int .i64 14,born:=5 }] 6))=.ok () (w.alloc (.map #[{ key:=.int .i64 0,val:=.int .i64 9,born:=0 },{ key:=.int .i64 2,val:=.int .i64 10,born:=1 },{ key:=.int .i64 3,val:=.int .i64 11,born:=2 },{ key:=.int .i64 4,val:=.int .i64 12,born:=3 },{ key:=.int .i64 5,val:=.int .i64 13,born:=4 },{ key:=.int .i64 6,val:=.int .i64 14,born:=5 },{ key:=.int .i64 7,val:=.int .i64 15,born:=6 }] 7)):=litmap_put _ _ (by simp) _ 3 3 .i64 #[{ key:=.int .i64 0,val:=.int .i64 9,born:=0 },{ key:=.int .i64 2,val:=.int .i64 10,born:=1 },{ key:=.int .i64 3,val:=.int .i64 11,born:=2 },{ key:=.int .i64 4,val:=.int .i64 12,born:=3 },{ key:=.int .i64 5,val:=.int .i64 13,born:=4 },{ key:=.int .i64 6,val:=.int .i64 14,born:=5 }] 6 7 _ Tryz.underlying106 Tryz.underlying3 rfl
  have hmg:(Instr.lookup 106 (.map (some (w.heap.size))) (.int .i64 r) false).run Tryz.prog (w.alloc (.map #[{ key:=.int .i64 0,val:=.int .i64 9,born:=0 },{ key:=.int .i64 2,val:=.int .i64 10,born:=1 },{ key:=.int .i64 3,val:=.int .i64 11,born:=2 },{ key:=.int .i64 4,val:=.int .i64 12,born:=3 },{ key:=.int .i64 5,val:=.int .i64 13,born:=4 },{ key:=.int .i64 6,val:=.int .i64 14,born:=5 },{ key:=.int .i64 7,val:=.int .i64 15,born:=6 }] 7))=.ok (.int .i64 (choL 247 r)) (w.alloc (.map #[{ key:=.int .i64 0,val:=.int .i64 9,born:=0 },{ key:=.int .i64 2,val:=.int .i64 10,born:=1 },{ key:=.int .i64 3,val:=.int .i64 11,born:=2 },{ key:=.int .i64 4,val:=.int .i64 12,born:=3 },{ key:=.int .i64 5,val:=.int .i64 13,born:=4 },{ key:=.int .i64 6,val:=.int .i64 14,born:=5 },{ key:=.int .i64 7,val:=.int .i64 15,born:=6 }] 7)):=by
    rw [show (choL 247 r)=pickE r [(0,9),(2,10),(3,11),(4,12),(5,13),(6,14),(7,15)] from rfl]
    exact intmap_get w _ (by simp) _ 3 3 [(0,9),(2,10),(3,11),(4,12),(5,13),(6,14),(7,15)] 7 r Tryz.underlying106 Tryz.underlying3 zero_int
  have HV:=Lib.hid (rfl:choL 247 r=choL 247 r)
  generalize hg:choL 247 r=V at *
  clear hg HV
  go_enter Tryz.func72,Tryz.ntmps72
  go_wp2
  go_ret
  exact ⟨rfl,BC.h⟩
theorem dcho_254 (r:Int) (_:0 ≤ r) (_:r < 8) (w:World):Calls Tryz.prog 72 #[.int .i64 254,.int .i64 r] w fun e w'=>e=.returned (.int .i64 (choL 254 r))∧Below w.heap.size w w':=by
  have hmm:=@run_makeMap Tryz.prog
  have hm0:(Instr.mapUpdate 106 (.map (some (w.heap.size))) (.int .i64 0) (.int .i64 16)).run Tryz.prog (w.alloc (.map #[] 0))=.ok () (w.alloc (.map #[{ key:=.int .i64 0,val:=.int .i64 16,born:=0 }] 1)):=litmap_put _ _ (by simp) _ 3 3 .i64 #[] 0 0 _ Tryz.underlying106 Tryz.underlying3 rfl
  have hm1:(Instr.mapUpdate 106 (.map (some (w.heap.size))) (.int .i64 1) (.int .i64 17)).run Tryz.prog (w.alloc (.map #[{ key:=.int .i64 0,val:=.int .i64 16,born:=0 }] 1))=.ok () (w.alloc (.map #[{ key:=.int .i64 0,val:=.int .i64 16,born:=0 },{ key:=.int .i64 1,val:=.int .i64 17,born:=1 }] 2)):=litmap_put _ _ (by simp) _ 3 3 .i64 #[{ key:=.int .i64 0,val:=.int .i64 16,born:=0 }] 1 1 _ Tryz.underlying106 Tryz.underlying3 rfl
  have hmg:(Instr.lookup 106 (.map (some (w.heap.size))) (.int .i64 r) false).run Tryz.prog (w.alloc (.map #[{ key:=.int .i64 0,val:=.int .i64 16,born:=0 },{ key:=.int .i64 1,val:=.int .i64 17,born:=1 }] 2))=.ok (.int .i64 (choL 254 r)) (w.alloc (.map #[{ key:=.int .i64 0,val:=.int .i64 16,born:=0 },{ key:=.int .i64 1,val:=.int .i64 17,born:=1 }] 2)):=by
    rw [show (choL 254 r)=pickE r [(0,16),(1,17)] from rfl]
    exact intmap_get w _ (by simp) _ 3 3 [(0,16),(1,17)] 2 r Tryz.underlying106 Tryz.underlying3 zero_int
  have HV:=Lib.hid (rfl:choL 254 r=choL 254 r)
  generalize hg:choL 254 r=V at *
  clear hg HV
  go_enter Tryz.func72,Tryz.ntmps72
  go_wp2
  go_ret
  exact ⟨rfl,BC.h⟩
theorem dcho_255 (r:Int) (_:0 ≤ r) (_:r < 8) (w:World):Calls Tryz.prog 72 #[.int .i64 255,.int .i64 r] w fun e w'=>e=.returned (.int .i64 (choL 255 r))∧Below w.heap.size w w':=by
  have hmm:=@run_makeMap Tryz.prog
  have hm0:(Instr.mapUpdate 106 (.map (some (w.heap.size))) (.int .i64 0) (.int .i64 16)).run Tryz.prog (w.alloc (.map #[] 0))=.ok () (w.alloc (.map #[{ key:=.int .i64 0,val:=.int .i64 16,born:=0 }] 1)):=litmap_put _ _ (by simp) _ 3 3 .i64 #[] 0 0 _ Tryz.underlying106 Tryz.underlying3 rfl
  have hm1:(Instr.mapUpdate 106 (.map (some (w.heap.size))) (.int .i64 1) (.int .i64 17)).run Tryz.prog (w.alloc (.map #[{ key:=.int .i64 0,val:=.int .i64 16,born:=0 }] 1))=.ok () (w.alloc (.map #[{ key:=.int .i64 0,val:=.int .i64 16,born:=0 },{ key:=.int .i64 1,val:=.int .i64 17,born:=1 }] 2)):=litmap_put _ _ (by simp) _ 3 3 .i64 #[{ key:=.int .i64 0,val:=.int .i64 16,born:=0 }] 1 1 _ Tryz.underlying106 Tryz.underlying3 rfl
  have hm2:(Instr.mapUpdate 106 (.map (some (w.heap.size))) (.int .i64 2) (.int .i64 33)).run Tryz.prog (w.alloc (.map #[{ key:=.int .i64 0,val:=.int .i64 16,born:=0 },{ key:=.int .i64 1,val:=.int .i64 17,born:=1 }] 2))=.ok () (w.alloc (.map #[{ key:=.int .i64 0,val:=.int .i64 16,born:=0 },{ key:=.int .i64 1,val:=.int .i64 17,born:=1 },{ key:=.int .i64 2,val:=.int .i64 33,born:=2 }] 3)):=litmap_put _ _ (by simp) _ 3 3 .i64 #[{ key:=.int .i64 0,val:=.int .i64 16,born:=0 },{ key:=.int .i64 1,val:=.int .i64 17,born:=1 }] 2 2 _ Tryz.underlying106 Tryz.underlying3 rfl
  have hm3:(Instr.mapUpdate 106 (.map (some (w.heap.size))) (.int .i64 4) (.int .i64 32)).run Tryz.prog (w.alloc (.map #[{ key:=.int .i64 0,val:=.int .i64 16,born:=0 },{ key:=.int .i64 1,val:=.int .i64 17,born:=1 },{ key:=.int .i64 2,val:=.int .i64 33,born:=2 }] 3))=.ok () (w.alloc (.map #[{ key:=.int .i64 0,val:=.int .i64 16,born:=0 },{ key:=.int .i64 1,val:=.int .i64 17,born:=1 },{ key:=.int .i64 2,val:=.int .i64 33,born:=2 },{ key:=.int .i64 4,val:=.int .i64 32,born:=3 }] 4)):=litmap_put _ _ (by simp) _ 3 3 .i64 #[{ key:=.int .i64 0,val:=.int .i64 16,born:=0 },{ key:=.int .i64 1,val:=.int .i64 17,born:=1 },{ key:=.int .i64 2,val:=.int .i64 33,born:=2 }] 3 4 _ Tryz.underlying106 Tryz.underlying3 rfl
  have hm4:(Instr.mapUpdate 106 (.map (some (w.heap.size))) (.int .i64 6) (.int .i64 23)).run Tryz.prog (w.alloc (.map #[{ key:=.int .i64 0,val:=.int .i64 16,born:=0 },{ key:=.int .i64 1,val:=.int .i64 17,born:=1 },{ key:=.int .i64 2,val:=.int .i64 33,born:=2 },{ key:=.int .i64 4,val:=.int .i64 32,born:=3 }] 4))=.ok () (w.alloc (.map #[{ key:=.int .i64 0,val:=.int .i64 16,born:=0 },{ key:=.int .i64 1,val:=.int .i64 17,born:=1 },{ key:=.int .i64 2,val:=.int .i64 33,born:=2 },{ key:=.int .i64 4,val:=.int .i64 32,born:=3 },{ key:=.int .i64 6,val:=.int .i64 23,born:=4 }] 5)):=litmap_put _ _ (by simp) _ 3 3 .i64 #[{ key:=.int .i64 0,val:=.int .i64 16,born:=0 },{ key:=.int .i64 1,val:=.int .i64 17,born:=1 },{ key:=.int .i64 2,val:=.int .i64 33,born:=2 },{ key:=.int .i64 4,val:=.int .i64 32,born:=3 }] 4 6 _ Tryz.underlying106 Tryz.underlying3 rfl
  have hmg:(Instr.lookup 106 (.map (some (w.heap.size))) (.int .i64 r) false).run Tryz.prog (w.alloc (.map #[{ key:=.int .i64 0,val:=.int .i64 16,born:=0 },{ key:=.int .i64 1,val:=.int .i64 17,born:=1 },{ key:=.int .i64 2,val:=.int .i64 33,born:=2 },{ key:=.int .i64 4,val:=.int .i64 32,born:=3 },{ key:=.int .i64 6,val:=.int .i64 23,born:=4 }] 5))=.ok (.int .i64 (choL 255 r)) (w.alloc (.map #[{ key:=.int .i64 0,val:=.int .i64 16,born:=0 },{ key:=.int .i64 1,val:=.int .i64 17,born:=1 },{ key:=.int .i64 2,val:=.int .i64 33,born:=2 },{ key:=.int .i64 4,val:=.int .i64 32,born:=3 },{ key:=.int .i64 6,val:=.int .i64 23,born:=4 }] 5)):=by
    rw [show (choL 255 r)=pickE r [(0,16),(1,17),(2,33),(4,32),(6,23)] from rfl]
    exact intmap_get w _ (by simp) _ 3 3 [(0,16),(1,17),(2,33),(4,32),(6,23)] 5 r Tryz.underlying106 Tryz.underlying3 zero_int
  have HV:=Lib.hid (rfl:choL 255 r=choL 255 r)
  generalize hg:choL 255 r=V at *
  clear hg HV
  go_enter Tryz.func72,Tryz.ntmps72
  go_wp2
  go_ret
  exact ⟨rfl,BC.h⟩
set_option maxHeartbeats 16000000
theorem dgrp_m (c r V:Int) (P:Option Prt) (h:(c=128∧P=some .number) ∨ (c=129∧P=some .number) ∨ (c=198∧P=some .number) ∨ (c=199∧P=some .number) ∨ (c=131∧P=some .short) ∨ (c=193∧P=some .short) ∨ (c=143∧P=none) ∨ (c=254∧P=none) ∨ (c=209∧P=some .once) ∨ (c=211∧P=some .counter) ∨ (c=246∧P=some .number∧(V == 9)=true) ∨ (c=247∧P=some .number∧(V == 9)=true) ∨ (c=246∧P=none∧(V == 9)=false) ∨ (c=247∧P=none∧(V == 9)=false)) (HC:∀ w,Calls Tryz.prog 72 #[.int .i64 c,.int .i64 r] w fun e w'=>e=.returned (.int .i64 V)∧Below w.heap.size w w') (w:World):Calls Tryz.prog 51 #[.int .i64 c,.int .i64 r] w fun e w'=>e=.returned (lfV ⟨V,0,wdL c,some .place,P,none,false⟩)∧Below w.heap.size w w':=by
  have HC:=Lib.hid HC
  have hc0:0 ≤ c:=by omega
  have hc1:c < 256:=by omega
  rcases h with ⟨hc,rfl⟩ | ⟨hc,rfl⟩ | ⟨hc,rfl⟩ | ⟨hc,rfl⟩ | ⟨hc,rfl⟩ | ⟨hc,rfl⟩ | ⟨hc,rfl⟩ | ⟨hc,rfl⟩ | ⟨hc,rfl⟩ | ⟨hc,rfl⟩ | ⟨hc,rfl,ev⟩ | ⟨hc,rfl,ev⟩ | ⟨hc,rfl,ev⟩ | ⟨hc,rfl,ev⟩
  all_goals
    first | (have t128:(c == 128)=false:=by rw [hc];rfl) | (have t128:(c == 128)=true:=by rw [hc];rfl)
    first | (have t129:(c == 129)=false:=by rw [hc];rfl) | (have t129:(c == 129)=true:=by rw [hc];rfl)
    first | (have t131:(c == 131)=false:=by rw [hc];rfl) | (have t131:(c == 131)=true:=by rw [hc];rfl)
    first | (have t143:(c == 143)=false:=by rw [hc];rfl) | (have t143:(c == 143)=true:=by rw [hc];rfl)
    first | (have t193:(c == 193)=false:=by rw [hc];rfl) | (have t193:(c == 193)=true:=by rw [hc];rfl)
    first | (have t198:(c == 198)=false:=by rw [hc];rfl) | (have t198:(c == 198)=true:=by rw [hc];rfl)
    first | (have t199:(c == 199)=false:=by rw [hc];rfl) | (have t199:(c == 199)=true:=by rw [hc];rfl)
    first | (have t209:(c == 209)=false:=by rw [hc];rfl) | (have t209:(c == 209)=true:=by rw [hc];rfl)
    first | (have t211:(c == 211)=false:=by rw [hc];rfl) | (have t211:(c == 211)=true:=by rw [hc];rfl)
    first | (have t246:(c == 246)=false:=by rw [hc];rfl) | (have t246:(c == 246)=true:=by rw [hc];rfl)
    first | (have t247:(c == 247)=false:=by rw [hc];rfl) | (have t247:(c == 247)=true:=by rw [hc];rfl)
    first | (have t254:(c == 254)=false:=by rw [hc];rfl) | (have t254:(c == 254)=true:=by rw [hc];rfl)
    first | (have t255:(c == 255)=false:=by rw [hc];rfl) | (have t255:(c == 255)=true:=by rw [hc];rfl)
    clear hc
    go_enter Tryz.func51,Tryz.ntmps51
    go_wp2_with fail
    refine (HC.out _).mono ?_
    rintro e w1 ⟨rfl,hb1⟩
    have HT:=Lib.hid (there_last (n:=7) hb1 (by decide))
    have hsz:w.heap.size < w1.heap.size:=by have:=hb1.size;simp at this;omega
    have HB1:=Lib.hid (below_first hb1)
    clear hb1
    go_wp2_with fail
    refine (dwidth_any c hc0 hc1 _).mono ?_
    rintro e w2 ⟨rfl,rfl⟩
    go_wp2_with ((first | (refine store_lf rfl (.tmp 4) (.tmp 36) rfl w.heap.size rfl ⟨V,0,wdL c,some .place,some .number,none,false⟩ rfl (there_alloc _ hsz HT.out) ?_) | (refine store_lf rfl (.tmp 4) (.tmp 36) rfl w.heap.size rfl ⟨V,0,wdL c,some .place,some .short,none,false⟩ rfl (there_alloc _ hsz HT.out) ?_) | (refine store_lf rfl (.tmp 4) (.tmp 36) rfl w.heap.size rfl ⟨V,0,wdL c,some .place,none,none,false⟩ rfl (there_alloc _ hsz HT.out) ?_) | (refine store_lf rfl (.tmp 4) (.tmp 36) rfl w.heap.size rfl ⟨V,0,wdL c,some .place,some .once,none,false⟩ rfl (there_alloc _ hsz HT.out) ?_) | (refine store_lf rfl (.tmp 4) (.tmp 36) rfl w.heap.size rfl ⟨V,0,wdL c,some .place,some .counter,none,false⟩ rfl (there_alloc _ hsz HT.out) ?_));intro Y hY hl;have HY:=Lib.hid hY;have HL:=Lib.hid hl;clear hY hl)
    refine bodyPost_ret (results_cell rfl rfl HL.out) rfl ⟨rfl,?_⟩
    rw [HY.out]
    exact below_setCells (Nat.le_refl _) _ _ _ (below_last HB1.out _)
set_option maxRecDepth 512
theorem dgrp_128 (r:Int) (r0:0 ≤ r) (r1:r < 8) (w:World):Calls Tryz.prog 51 #[.int .i64 128,.int .i64 r] w fun e w'=>e=.returned (lfV ⟨choL 128 r,0,wdL 128,some .place,some .number,none,false⟩)∧Below w.heap.size w w':=dgrp_m 128 r _ _ (by simp) (dcho_128 r r0 r1) w
theorem dgrp_129 (r:Int) (r0:0 ≤ r) (r1:r < 8) (w:World):Calls Tryz.prog 51 #[.int .i64 129,.int .i64 r] w fun e w'=>e=.returned (lfV ⟨choL 129 r,0,wdL 129,some .place,some .number,none,false⟩)∧Below w.heap.size w w':=dgrp_m 129 r _ _ (by simp) (dcho_129 r r0 r1) w
theorem dgrp_198 (r:Int) (r0:0 ≤ r) (r1:r < 8) (w:World):Calls Tryz.prog 51 #[.int .i64 198,.int .i64 r] w fun e w'=>e=.returned (lfV ⟨choL 198 r,0,wdL 198,some .place,some .number,none,false⟩)∧Below w.heap.size w w':=dgrp_m 198 r _ _ (by simp) (dcho_198 r r0 r1) w
theorem dgrp_199 (r:Int) (r0:0 ≤ r) (r1:r < 8) (w:World):Calls Tryz.prog 51 #[.int .i64 199,.int .i64 r] w fun e w'=>e=.returned (lfV ⟨choL 199 r,0,wdL 199,some .place,some .number,none,false⟩)∧Below w.heap.size w w':=dgrp_m 199 r _ _ (by simp) (dcho_199 r r0 r1) w
theorem dgrp_131 (r:Int) (r0:0 ≤ r) (r1:r < 8) (w:World):Calls Tryz.prog 51 #[.int .i64 131,.int .i64 r] w fun e w'=>e=.returned (lfV ⟨choL 131 r,0,wdL 131,some .place,some .short,none,false⟩)∧Below w.heap.size w w':=dgrp_m 131 r _ _ (by simp) (dcho_131 r r0 r1) w
theorem dgrp_193 (r:Int) (r0:0 ≤ r) (r1:r < 8) (w:World):Calls Tryz.prog 51 #[.int .i64 193,.int .i64 r] w fun e w'=>e=.returned (lfV ⟨choL 193 r,0,wdL 193,some .place,some .short,none,false⟩)∧Below w.heap.size w w':=dgrp_m 193 r _ _ (by simp) (dcho_193 r r0 r1) w
theorem dgrp_143 (r:Int) (r0:0 ≤ r) (r1:r < 8) (w:World):Calls Tryz.prog 51 #[.int .i64 143,.int .i64 r] w fun e w'=>e=.returned (lfV ⟨choL 143 r,0,wdL 143,some .place,none,none,false⟩)∧Below w.heap.size w w':=dgrp_m 143 r _ _ (by simp) (dcho_143 r r0 r1) w
theorem dgrp_254 (r:Int) (r0:0 ≤ r) (r1:r < 8) (w:World):Calls Tryz.prog 51 #[.int .i64 254,.int .i64 r] w fun e w'=>e=.returned (lfV ⟨choL 254 r,0,wdL 254,some .place,none,none,false⟩)∧Below w.heap.size w w':=dgrp_m 254 r _ _ (by simp) (dcho_254 r r0 r1) w
theorem dgrp_209 (r:Int) (r0:0 ≤ r) (r1:r < 8) (w:World):Calls Tryz.prog 51 #[.int .i64 209,.int .i64 r] w fun e w'=>e=.returned (lfV ⟨choL 209 r,0,wdL 209,some .place,some .once,none,false⟩)∧Below w.heap.size w w':=dgrp_m 209 r _ _ (by simp) (dcho_209 r r0 r1) w
theorem dgrp_211 (r:Int) (r0:0 ≤ r) (r1:r < 8) (w:World):Calls Tryz.prog 51 #[.int .i64 211,.int .i64 r] w fun e w'=>e=.returned (lfV ⟨choL 211 r,0,wdL 211,some .place,some .counter,none,false⟩)∧Below w.heap.size w w':=dgrp_m 211 r _ _ (by simp) (dcho_211 r r0 r1) w
theorem dgrp_246t (r:Int) (r0:0 ≤ r) (r1:r < 8) (hv:choL 246 r=9) (w:World):Calls Tryz.prog 51 #[.int .i64 246,.int .i64 r] w fun e w'=>e=.returned (lfV ⟨choL 246 r,0,wdL 246,some .place,some .number,none,false⟩)∧Below w.heap.size w w':=dgrp_m 246 r _ _ (by simp [hv]) (dcho_246 r r0 r1) w
theorem dgrp_247t (r:Int) (r0:0 ≤ r) (r1:r < 8) (hv:choL 247 r=9) (w:World):Calls Tryz.prog 51 #[.int .i64 247,.int .i64 r] w fun e w'=>e=.returned (lfV ⟨choL 247 r,0,wdL 247,some .place,some .number,none,false⟩)∧Below w.heap.size w w':=dgrp_m 247 r _ _ (by simp [hv]) (dcho_247 r r0 r1) w
theorem dgrp_246n (r:Int) (r0:0 ≤ r) (r1:r < 8) (hv:choL 246 r ≠ 9) (w:World):Calls Tryz.prog 51 #[.int .i64 246,.int .i64 r] w fun e w'=>e=.returned (lfV ⟨choL 246 r,0,wdL 246,some .place,none,none,false⟩)∧Below w.heap.size w w':=dgrp_m 246 r _ _ (by simp [hv]) (dcho_246 r r0 r1) w
theorem dgrp_247n (r:Int) (r0:0 ≤ r) (r1:r < 8) (hv:choL 247 r ≠ 9) (w:World):Calls Tryz.prog 51 #[.int .i64 247,.int .i64 r] w fun e w'=>e=.returned (lfV ⟨choL 247 r,0,wdL 247,some .place,none,none,false⟩)∧Below w.heap.size w w':=dgrp_m 247 r _ _ (by simp [hv]) (dcho_247 r r0 r1) w
set_option maxRecDepth 100000
theorem dgrp_255 (r:Int) (r0:0 ≤ r) (r1:r < 8) (w:World):Calls Tryz.prog 51 #[.int .i64 255,.int .i64 r] w fun e w'=>e=.returned (lfV ⟨choL 255 r,0,wdL 255,some .place,none,none,false⟩)∧Below w.heap.size w w':=by
  have HC:=Lib.hid (dcho_255 r r0 r1)
  generalize choL 255 r=V at *
  go_enter Tryz.func51,Tryz.ntmps51
  go_wp2_with fail
  refine (HC.out _).mono ?_
  rintro e w1 ⟨rfl,hb1⟩
  have HT:=Lib.hid (there_last (n:=7) hb1 (by decide))
  have hsz:w.heap.size < w1.heap.size:=by have:=hb1.size;simp at this;omega
  have HB1:=Lib.hid (below_first hb1)
  clear hb1
  go_wp2_with fail
  refine (dwidth_any 255 (by decide) (by decide) _).mono ?_
  rintro e w2 ⟨rfl,rfl⟩
  go_wp2_with (refine store_lf rfl (.tmp 4) (.tmp 36) rfl w.heap.size rfl ⟨V,0,wdL 255,some .place,none,none,false⟩ rfl (there_alloc _ hsz HT.out) ?_;intro Y hY hl;have HY:=Lib.hid hY;have HL:=Lib.hid hl;clear hY hl)
  refine bodyPost_ret (results_cell rfl rfl HL.out) rfl ⟨rfl,?_⟩
  rw [HY.out]
  exact below_setCells (Nat.le_refl _) _ _ _ (below_last HB1.out _)
set_option maxRecDepth 512
theorem dgrp_any (c r:Int) (h:isGrp c=true) (r0:0 ≤ r) (r1:r < 8) (w:World):Calls Tryz.prog 51 #[.int .i64 c,.int .i64 r] w fun e w'=>e=.returned (lfV (grpL c r))∧Below w.heap.size w w':=by
  by_cases n128:c=128
  · subst n128;exact dgrp_128 r r0 r1 w
  by_cases n129:c=129
  · subst n129;exact dgrp_129 r r0 r1 w
  by_cases n131:c=131
  · subst n131;exact dgrp_131 r r0 r1 w
  by_cases n143:c=143
  · subst n143;exact dgrp_143 r r0 r1 w
  by_cases n193:c=193
  · subst n193;exact dgrp_193 r r0 r1 w
  by_cases n209:c=209
  · subst n209;exact dgrp_209 r r0 r1 w
  by_cases n211:c=211
  · subst n211;exact dgrp_211 r r0 r1 w
  by_cases n198:c=198
  · subst n198;exact dgrp_198 r r0 r1 w
  by_cases n199:c=199
  · subst n199;exact dgrp_199 r r0 r1 w
  by_cases n246:c=246
  · subst n246
    by_cases hv:choL 246 r=9
    · rw [show grpL 246 r=⟨choL 246 r,0,wdL 246,some .place,some .number,none,false⟩ by unfold grpL grpB;simp [hv]]
      exact dgrp_246t r r0 r1 hv w
    · rw [show grpL 246 r=⟨choL 246 r,0,wdL 246,some .place,none,none,false⟩ by unfold grpL grpB;simp [hv]]
      exact dgrp_246n r r0 r1 hv w
  by_cases n247:c=247
  · subst n247
    by_cases hv:choL 247 r=9
    · rw [show grpL 247 r=⟨choL 247 r,0,wdL 247,some .place,some .number,none,false⟩ by unfold grpL grpB;simp [hv]]
      exact dgrp_247t r r0 r1 hv w
    · rw [show grpL 247 r=⟨choL 247 r,0,wdL 247,some .place,none,none,false⟩ by unfold grpL grpB;simp [hv]]
      exact dgrp_247n r r0 r1 hv w
  by_cases n254:c=254
  · subst n254;exact dgrp_254 r r0 r1 w
  by_cases n255:c=255
  · subst n255;exact dgrp_255 r r0 r1 w
  simp [isGrp,n128,n129,n131,n143,n193,n209,n211,n198,n199,n246,n247,n254,n255] at h
end
section
attribute [local go_sem] isSome_setCell
set_option maxRecDepth 100000
set_option maxHeartbeats 1000000
theorem d0f_4 (c:Int) (h0:0 ≤ c) (h1:c < 256) (hq:c / 16=4) (w:World):Calls Tryz.prog 46 #[.int .i64 c] w fun e w'=>e=.returned (lfV ⟨36,c % 16,4,some .register,some .place,none,false⟩)∧Below w.heap.size w w':=by
  go_enter Tryz.func46,Tryz.ntmps46
  go_wp2_with (first | (go_at_call 65;(with_reducible refine (dcond_any _ (by first | decide | omega) (by first | decide | omega) _).mono ?_);rintro e w' ⟨rfl,rfl⟩))
  go_returns
  exact ⟨rfl,BC.h⟩
theorem d0f_8 (c:Int) (h0:0 ≤ c) (h1:c < 256) (hq:c / 16=8) (w:World):Calls Tryz.prog 46 #[.int .i64 c] w fun e w'=>e=.returned (lfV ⟨31,c % 16,0,some .number,none,none,false⟩)∧Below w.heap.size w w':=by
  go_enter Tryz.func46,Tryz.ntmps46
  go_wp2_with (first | (go_at_call 65;(with_reducible refine (dcond_any _ (by first | decide | omega) (by first | decide | omega) _).mono ?_);rintro e w' ⟨rfl,rfl⟩))
  go_returns
  exact ⟨rfl,BC.h⟩
theorem d0f_9 (c:Int) (h0:0 ≤ c) (h1:c < 256) (hq:c / 16=9) (w:World):Calls Tryz.prog 46 #[.int .i64 c] w fun e w'=>e=.returned (lfV ⟨35,c % 16,1,some .place,none,none,false⟩)∧Below w.heap.size w w':=by
  go_enter Tryz.func46,Tryz.ntmps46
  go_wp2_with (first | (go_at_call 65;(with_reducible refine (dcond_any _ (by first | decide | omega) (by first | decide | omega) _).mono ?_);rintro e w' ⟨rfl,rfl⟩))
  go_returns
  exact ⟨rfl,BC.h⟩
theorem d0f_175 (w:World):Calls Tryz.prog 46 #[.int .i64 175] w fun e w'=>e=.returned (lfV (after0FL 175))∧Below w.heap.size w w':=by
  have a1:bits .and .i64 175 1=1:=by decide
  go_enter Tryz.func46,Tryz.ntmps46
  go_wp2
  go_returns
  exact ⟨rfl,BC.h⟩
theorem d0f_182 (w:World):Calls Tryz.prog 46 #[.int .i64 182] w fun e w'=>e=.returned (lfV (after0FL 182))∧Below w.heap.size w w':=by
  have a1:bits .and .i64 182 1=0:=by decide
  go_enter Tryz.func46,Tryz.ntmps46
  go_wp2
  go_returns
  exact ⟨rfl,BC.h⟩
theorem d0f_183 (w:World):Calls Tryz.prog 46 #[.int .i64 183] w fun e w'=>e=.returned (lfV (after0FL 183))∧Below w.heap.size w w':=by
  have a1:bits .and .i64 183 1=1:=by decide
  go_enter Tryz.func46,Tryz.ntmps46
  go_wp2
  go_returns
  exact ⟨rfl,BC.h⟩
theorem d0f_190 (w:World):Calls Tryz.prog 46 #[.int .i64 190] w fun e w'=>e=.returned (lfV (after0FL 190))∧Below w.heap.size w w':=by
  have a1:bits .and .i64 190 1=0:=by decide
  go_enter Tryz.func46,Tryz.ntmps46
  go_wp2
  go_returns
  exact ⟨rfl,BC.h⟩
theorem d0f_191 (w:World):Calls Tryz.prog 46 #[.int .i64 191] w fun e w'=>e=.returned (lfV (after0FL 191))∧Below w.heap.size w w':=by
  have a1:bits .and .i64 191 1=1:=by decide
  go_enter Tryz.func46,Tryz.ntmps46
  go_wp2
  go_returns
  exact ⟨rfl,BC.h⟩
theorem d0f_none (c:Int) (_:0 ≤ c) (_:c < 256) (q4:c / 16 ≠ 4) (q8:c / 16 ≠ 8) (q9:c / 16 ≠ 9) (n175:c ≠ 175) (n182:c ≠ 182) (n183:c ≠ 183) (n190:c ≠ 190) (n191:c ≠ 191) (w:World):Calls Tryz.prog 46 #[.int .i64 c] w fun e w'=>e=.returned (lfV nilL)∧Below w.heap.size w w':=by
  have f4:(c / 16 == 4)=false:=by simpa using q4
  have f8:(c / 16 == 8)=false:=by simpa using q8
  have f9:(c / 16 == 9)=false:=by simpa using q9
  have e175:(c == 175)=false:=by simpa using n175
  have e182:(c == 182)=false:=by simpa using n182
  have e183:(c == 183)=false:=by simpa using n183
  have e190:(c == 190)=false:=by simpa using n190
  have e191:(c == 191)=false:=by simpa using n191
  clear q4 q8 q9 n175 n182 n183 n190 n191
  go_enter Tryz.func46,Tryz.ntmps46
  go_wp2_with (first | (go_at_call 65;(with_reducible refine (dcond_any _ (by first | decide | omega) (by first | decide | omega) _).mono ?_);rintro e w' ⟨rfl,rfl⟩))
  go_returns
  exact ⟨rfl,BC.h⟩
set_option maxRecDepth 512
theorem d0f_any (c:Int) (h0:0 ≤ c) (h1:c < 256) (w:World):Calls Tryz.prog 46 #[.int .i64 c] w fun e w'=>e=.returned (lfV (after0FL c))∧Below w.heap.size w w':=by
  by_cases q4:c / 16=4
  · have:=d0f_4 c h0 h1 q4 w
    unfold after0FL
    rw [if_pos (by omega)]
    exact this
  by_cases q8:c / 16=8
  · have:=d0f_8 c h0 h1 q8 w
    unfold after0FL
    rw [if_neg (by omega),if_pos (by omega)]
    exact this
  by_cases q9:c / 16=9
  · have:=d0f_9 c h0 h1 q9 w
    unfold after0FL
    rw [if_neg (by omega),if_neg (by omega),if_pos (by omega)]
    exact this
  by_cases n175:c=175
  · subst n175;exact d0f_175 w
  by_cases n182:c=182
  · subst n182;exact d0f_182 w
  by_cases n183:c=183
  · subst n183;exact d0f_183 w
  by_cases n190:c=190
  · subst n190;exact d0f_190 w
  by_cases n191:c=191
  · subst n191;exact d0f_191 w
  have:=d0f_none c h0 h1 q4 q8 q9 n175 n182 n183 n190 n191 w
  unfold after0FL
  rw [if_neg q4,if_neg q8,if_neg q9,if_neg (by omega),if_neg (by omega),if_neg (by omega)]
  exact this
set_option maxRecDepth 100000
theorem d66_46 (w:World):Calls Tryz.prog 47 #[.int .i64 46] w fun e w'=>e=.returned (lfV (after66L 46))∧Below w.heap.size w w':=by
  go_enter Tryz.func47,Tryz.ntmps47
  go_wp2
  go_returns
  exact ⟨rfl,BC.h⟩
theorem d66_any (c:Int) (w:World):Calls Tryz.prog 47 #[.int .i64 c] w fun e w'=>e=.returned (lfV (after66L c))∧Below w.heap.size w w':=by
  by_cases h:c=46
  · subst h;exact d66_46 w
  have hV:=Lib.hid (show after66L c=nilL by unfold after66L;rw [if_neg h])
  have e1:(c == 46)=false:=by simpa using h
  clear h
  go_enter Tryz.func47,Tryz.ntmps47
  go_wp2
  go_returns
  exact ⟨by rw [hV.out];rfl,BC.h⟩
theorem df2_17 (w:World):Calls Tryz.prog 49 #[.int .i64 17] w fun e w'=>e=.returned (lfV (afterF2L 17))∧Below w.heap.size w w':=by
  go_enter Tryz.func49,Tryz.ntmps49
  go_wp2
  go_returns
  exact ⟨rfl,BC.h⟩
theorem df2_42 (w:World):Calls Tryz.prog 49 #[.int .i64 42] w fun e w'=>e=.returned (lfV (afterF2L 42))∧Below w.heap.size w w':=by
  go_enter Tryz.func49,Tryz.ntmps49
  go_wp2
  go_returns
  exact ⟨rfl,BC.h⟩
theorem df2_44 (w:World):Calls Tryz.prog 49 #[.int .i64 44] w fun e w'=>e=.returned (lfV (afterF2L 44))∧Below w.heap.size w w':=by
  go_enter Tryz.func49,Tryz.ntmps49
  go_wp2
  go_returns
  exact ⟨rfl,BC.h⟩
theorem df2_any (c:Int) (w:World):Calls Tryz.prog 49 #[.int .i64 c] w fun e w'=>e=.returned (lfV (afterF2L c))∧Below w.heap.size w w':=by
  by_cases n17:c=17
  · subst n17;exact df2_17 w
  by_cases n42:c=42
  · subst n42;exact df2_42 w
  by_cases n44:c=44
  · subst n44;exact df2_44 w
  have hV:=Lib.hid (show afterF2L c=⟨intoF c,0,8,some .register,some .place,none,false⟩ by unfold afterF2L;rw [if_neg n17,if_neg n42,if_neg n44])
  have e17:(c == 17)=false:=by simpa using n17
  have e42:(c == 42)=false:=by simpa using n42
  have e44:(c == 44)=false:=by simpa using n44
  clear n17 n42 n44
  have hmm:=@run_makeMap Tryz.prog
  have hm0:(Instr.mapUpdate 106 (.map (some (w.heap.size+1))) (.int .i64 16) (.int .i64 51)).run Tryz.prog ((w.alloc (.cells #[.int .i64 0,.int .i64 0,.int .i64 0,.nilFunc,.nilFunc,.nilFunc,.bool false] 70)).alloc (.map #[] 0))=.ok () ((w.alloc (.cells #[.int .i64 0,.int .i64 0,.int .i64 0,.nilFunc,.nilFunc,.nilFunc,.bool false] 70)).alloc (.map #[{ key:=.int .i64 16,val:=.int .i64 51,born:=0 }] 1)):=litmap_put _ _ (by simp) _ 3 3 .i64 #[] 0 16 _ Tryz.underlying106 Tryz.underlying3 rfl
  have hm1:(Instr.mapUpdate 106 (.map (some (w.heap.size+1))) (.int .i64 81) (.int .i64 58)).run Tryz.prog ((w.alloc (.cells #[.int .i64 0,.int .i64 0,.int .i64 0,.nilFunc,.nilFunc,.nilFunc,.bool false] 70)).alloc (.map #[{ key:=.int .i64 16,val:=.int .i64 51,born:=0 }] 1))=.ok () ((w.alloc (.cells #[.int .i64 0,.int .i64 0,.int .i64 0,.nilFunc,.nilFunc,.nilFunc,.bool false] 70)).alloc (.map #[{ key:=.int .i64 16,val:=.int .i64 51,born:=0 },{ key:=.int .i64 81,val:=.int .i64 58,born:=1 }] 2)):=litmap_put _ _ (by simp) _ 3 3 .i64 #[{ key:=.int .i64 16,val:=.int .i64 51,born:=0 }] 1 81 _ Tryz.underlying106 Tryz.underlying3 rfl
  have hm2:(Instr.mapUpdate 106 (.map (some (w.heap.size+1))) (.int .i64 88) (.int .i64 52)).run Tryz.prog ((w.alloc (.cells #[.int .i64 0,.int .i64 0,.int .i64 0,.nilFunc,.nilFunc,.nilFunc,.bool false] 70)).alloc (.map #[{ key:=.int .i64 16,val:=.int .i64 51,born:=0 },{ key:=.int .i64 81,val:=.int .i64 58,born:=1 }] 2))=.ok () ((w.alloc (.cells #[.int .i64 0,.int .i64 0,.int .i64 0,.nilFunc,.nilFunc,.nilFunc,.bool false] 70)).alloc (.map #[{ key:=.int .i64 16,val:=.int .i64 51,born:=0 },{ key:=.int .i64 81,val:=.int .i64 58,born:=1 },{ key:=.int .i64 88,val:=.int .i64 52,born:=2 }] 3)):=litmap_put _ _ (by simp) _ 3 3 .i64 #[{ key:=.int .i64 16,val:=.int .i64 51,born:=0 },{ key:=.int .i64 81,val:=.int .i64 58,born:=1 }] 2 88 _ Tryz.underlying106 Tryz.underlying3 rfl
  have hm3:(Instr.mapUpdate 106 (.map (some (w.heap.size+1))) (.int .i64 89) (.int .i64 53)).run Tryz.prog ((w.alloc (.cells #[.int .i64 0,.int .i64 0,.int .i64 0,.nilFunc,.nilFunc,.nilFunc,.bool false] 70)).alloc (.map #[{ key:=.int .i64 16,val:=.int .i64 51,born:=0 },{ key:=.int .i64 81,val:=.int .i64 58,born:=1 },{ key:=.int .i64 88,val:=.int .i64 52,born:=2 }] 3))=.ok () ((w.alloc (.cells #[.int .i64 0,.int .i64 0,.int .i64 0,.nilFunc,.nilFunc,.nilFunc,.bool false] 70)).alloc (.map #[{ key:=.int .i64 16,val:=.int .i64 51,born:=0 },{ key:=.int .i64 81,val:=.int .i64 58,born:=1 },{ key:=.int .i64 88,val:=.int .i64 52,born:=2 },{ key:=.int .i64 89,val:=.int .i64 53,born:=3 }] 4)):=litmap_put _ _ (by simp) _ 3 3 .i64 #[{ key:=.int .i64 16,val:=.int .i64 51,born:=0 },{ key:=.int .i64 81,val:=.int .i64 58,born:=1 },{ key:=.int .i64 88,val:=.int .i64 52,born:=2 }] 3 89 _ Tryz.underlying106 Tryz.underlying3 rfl
  have hm4:(Instr.mapUpdate 106 (.map (some (w.heap.size+1))) (.int .i64 92) (.int .i64 54)).run Tryz.prog ((w.alloc (.cells #[.int .i64 0,.int .i64 0,.int .i64 0,.nilFunc,.nilFunc,.nilFunc,.bool false] 70)).alloc (.map #[{ key:=.int .i64 16,val:=.int .i64 51,born:=0 },{ key:=.int .i64 81,val:=.int .i64 58,born:=1 },{ key:=.int .i64 88,val:=.int .i64 52,born:=2 },{ key:=.int .i64 89,val:=.int .i64 53,born:=3 }] 4))=.ok () ((w.alloc (.cells #[.int .i64 0,.int .i64 0,.int .i64 0,.nilFunc,.nilFunc,.nilFunc,.bool false] 70)).alloc (.map #[{ key:=.int .i64 16,val:=.int .i64 51,born:=0 },{ key:=.int .i64 81,val:=.int .i64 58,born:=1 },{ key:=.int .i64 88,val:=.int .i64 52,born:=2 },{ key:=.int .i64 89,val:=.int .i64 53,born:=3 },{ key:=.int .i64 92,val:=.int .i64 54,born:=4 }] 5)):=litmap_put _ _ (by simp) _ 3 3 .i64 #[{ key:=.int .i64 16,val:=.int .i64 51,born:=0 },{ key:=.int .i64 81,val:=.int .i64 58,born:=1 },{ key:=.int .i64 88,val:=.int .i64 52,born:=2 },{ key:=.int .i64 89,val:=.int .i64 53,born:=3 }] 4 92 _ Tryz.underlying106 Tryz.underlying3 rfl
  have hm5:(Instr.mapUpdate 106 (.map (some (w.heap.size+1))) (.int .i64 93) (.int .i64 55)).run Tryz.prog ((w.alloc (.cells #[.int .i64 0,.int .i64 0,.int .i64 0,.nilFunc,.nilFunc,.nilFunc,.bool false] 70)).alloc (.map #[{ key:=.int .i64 16,val:=.int .i64 51,born:=0 },{ key:=.int .i64 81,val:=.int .i64 58,born:=1 },{ key:=.int .i64 88,val:=.int .i64 52,born:=2 },{ key:=.int .i64 89,val:=.int .i64 53,born:=3 },{ key:=.int .i64 92,val:=.int .i64 54,born:=4 }] 5))=.ok () ((w.alloc (.cells #[.int .i64 0,.int .i64 0,.int .i64 0,.nilFunc,.nilFunc,.nilFunc,.bool false] 70)).alloc (.map #[{ key:=.int .i64 16,val:=.int .i64 51,born:=0 },{ key:=.int .i64 81,val:=.int .i64 58,born:=1 },{ key:=.int .i64 88,val:=.int .i64 52,born:=2 },{ key:=.int .i64 89,val:=.int .i64 53,born:=3 },{ key:=.int .i64 92,val:=.int .i64 54,born:=4 },{ key:=.int .i64 93,val:=.int .i64 55,born:=5 }] 6)):=litmap_put _ _ (by simp) _ 3 3 .i64 #[{ key:=.int .i64 16,val:=.int .i64 51,born:=0 },{ key:=.int .i64 81,val:=.int .i64 58,born:=1 },{ key:=.int .i64 88,val:=.int .i64 52,born:=2 },{ key:=.int .i64 89,val:=.int .i64 53,born:=3 },{ key:=.int .i64 92,val:=.int .i64 54,born:=4 }] 5 93 _ Tryz.underlying106 Tryz.underlying3 rfl
  have hm6:(Instr.mapUpdate 106 (.map (some (w.heap.size+1))) (.int .i64 94) (.int .i64 56)).run Tryz.prog ((w.alloc (.cells #[.int .i64 0,.int .i64 0,.int .i64 0,.nilFunc,.nilFunc,.nilFunc,.bool false] 70)).alloc (.map #[{ key:=.int .i64 16,val:=.int .i64 51,born:=0 },{ key:=.int .i64 81,val:=.int .i64 58,born:=1 },{ key:=.int .i64 88,val:=.int .i64 52,born:=2 },{ key:=.int .i64 89,val:=.int .i64 53,born:=3 },{ key:=.int .i64 92,val:=.int .i64 54,born:=4 },{ key:=.int .i64 93,val:=.int .i64 55,born:=5 }] 6))=.ok () ((w.alloc (.cells #[.int .i64 0,.int .i64 0,.int .i64 0,.nilFunc,.nilFunc,.nilFunc,.bool false] 70)).alloc (.map #[{ key:=.int .i64 16,val:=.int .i64 51,born:=0 },{ key:=.int .i64 81,val:=.int .i64 58,born:=1 },{ key:=.int .i64 88,val:=.int .i64 52,born:=2 },{ key:=.int .i64 89,val:=.int .i64 53,born:=3 },{ key:=.int .i64 92,val:=.int .i64 54,born:=4 },{ key:=.int .i64 93,val:=.int .i64 55,born:=5 },{ key:=.int .i64 94,val:=.int .i64 56,born:=6 }] 7)):=litmap_put _ _ (by simp) _ 3 3 .i64 #[{ key:=.int .i64 16,val:=.int .i64 51,born:=0 },{ key:=.int .i64 81,val:=.int .i64 58,born:=1 },{ key:=.int .i64 88,val:=.int .i64 52,born:=2 },{ key:=.int .i64 89,val:=.int .i64 53,born:=3 },{ key:=.int .i64 92,val:=.int .i64 54,born:=4 },{ key:=.int .i64 93,val:=.int .i64 55,born:=5 }] 6 94 _ Tryz.underlying106 Tryz.underlying3 rfl
  have hm7:(Instr.mapUpdate 106 (.map (some (w.heap.size+1))) (.int .i64 95) (.int .i64 57)).run Tryz.prog ((w.alloc (.cells #[.int .i64 0,.int .i64 0,.int .i64 0,.nilFunc,.nilFunc,.nilFunc,.bool false] 70)).alloc (.map #[{ key:=.int .i64 16,val:=.int .i64 51,born:=0 },{ key:=.int .i64 81,val:=.int .i64 58,born:=1 },{ key:=.int .i64 88,val:=.int .i64 52,born:=2 },{ key:=.int .i64 89,val:=.int .i64 53,born:=3 },{ key:=.int .i64 92,val:=.int .i64 54,born:=4 },{ key:=.int .i64 93,val:=.int .i64 55,born:=5 },{ key:=.int .i64 94,val:=.int .i64 56,born:=6 }] 7))=.ok () ((w.alloc (.cells #[.int .i64 0,.int .i64 0,.int .i64 0,.nilFunc,.nilFunc,.nilFunc,.bool false] 70)).alloc (.map #[{ key:=.int .i64 16,val:=.int .i64 51,born:=0 },{ key:=.int .i64 81,val:=.int .i64 58,born:=1 },{ key:=.int .i64 88,val:=.int .i64 52,born:=2 },{ key:=.int .i64 89,val:=.int .i64 53,born:=3 },{ key:=.int .i64 92,val:=.int .i64 54,born:=4 },{ key:=.int .i64 93,val:=.int .i64 55,born:=5 },{ key:=.int .i64 94,val:=.int .i64 56,born:=6 },{ key:=.int .i64 95,val:=.int .i64 57,born:=7 }] 8)):=litmap_put _ _ (by simp) _ 3 3 .i64 #[{ key:=.int .i64 16,val:=.int .i64 51,born:=0 },{ key:=.int .i64 81,val:=.int .i64 58,born:=1 },{ key:=.int .i64 88,val:=.int .i64 52,born:=2 },{ key:=.int .i64 89,val:=.int .i64 53,born:=3 },{ key:=.int .i64 92,val:=.int .i64 54,born:=4 },{ key:=.int .i64 93,val:=.int .i64 55,born:=5 },{ key:=.int .i64 94,val:=.int .i64 56,born:=6 }] 7 95 _ Tryz.underlying106 Tryz.underlying3 rfl
  have hmg:(Instr.lookup 106 (.map (some (w.heap.size+1))) (.int .i64 c) false).run Tryz.prog ((w.alloc (.cells #[.int .i64 0,.int .i64 0,.int .i64 0,.nilFunc,.nilFunc,.nilFunc,.bool false] 70)).alloc (.map #[{ key:=.int .i64 16,val:=.int .i64 51,born:=0 },{ key:=.int .i64 81,val:=.int .i64 58,born:=1 },{ key:=.int .i64 88,val:=.int .i64 52,born:=2 },{ key:=.int .i64 89,val:=.int .i64 53,born:=3 },{ key:=.int .i64 92,val:=.int .i64 54,born:=4 },{ key:=.int .i64 93,val:=.int .i64 55,born:=5 },{ key:=.int .i64 94,val:=.int .i64 56,born:=6 },{ key:=.int .i64 95,val:=.int .i64 57,born:=7 }] 8))=.ok (.int .i64 (intoF c)) ((w.alloc (.cells #[.int .i64 0,.int .i64 0,.int .i64 0,.nilFunc,.nilFunc,.nilFunc,.bool false] 70)).alloc (.map #[{ key:=.int .i64 16,val:=.int .i64 51,born:=0 },{ key:=.int .i64 81,val:=.int .i64 58,born:=1 },{ key:=.int .i64 88,val:=.int .i64 52,born:=2 },{ key:=.int .i64 89,val:=.int .i64 53,born:=3 },{ key:=.int .i64 92,val:=.int .i64 54,born:=4 },{ key:=.int .i64 93,val:=.int .i64 55,born:=5 },{ key:=.int .i64 94,val:=.int .i64 56,born:=6 },{ key:=.int .i64 95,val:=.int .i64 57,born:=7 }] 8)):=by
    rw [show (intoF c)=pickE c [(16,51),(81,58),(88,52),(89,53),(92,54),(93,55),(94,56),(95,57)] from rfl]
    exact intmap_get (w.alloc (.cells #[.int .i64 0,.int .i64 0,.int .i64 0,.nilFunc,.nilFunc,.nilFunc,.bool false] 70)) _ (by simp) _ 3 3 [(16,51),(81,58),(88,52),(89,53),(92,54),(93,55),(94,56),(95,57)] 8 c Tryz.underlying106 Tryz.underlying3 zero_int
  generalize intoF c=V at *
  go_enter Tryz.func49,Tryz.ntmps49
  go_wp2
  go_returns
  exact ⟨by rw [hV.out];rfl,BC.h⟩
theorem df3_164 (w:World):Calls Tryz.prog 50 #[.int .i64 164] w fun e w'=>e=.returned (lfV (afterF3L 164))∧Below w.heap.size w w':=by
  have HB:∀ u,Calls Tryz.prog 71 #[.int .i64 164] u fun e w'=>e=.returned (.agg #[.int .i64 46,.int .i64 0,.int .i64 1,.nilFunc,.nilFunc,.nilFunc,.bool false])∧Below u.heap.size u w':=fun u=>dbare_164 u
  have HB:=Lib.hid HB
  go_enter Tryz.func50,Tryz.ntmps50
  go_wp2_with fail
  refine (HB.out _).mono ?_
  rintro e w1 ⟨rfl,hb1⟩
  have HT:=Lib.hid (there_last (n:=7) hb1 (by decide))
  have hsz:w.heap.size < w1.heap.size:=by have:=hb1.size;simp at this;omega
  have HB1:=Lib.hid (below_first hb1)
  clear hb1
  go_wp2_with (refine store_lf rfl (.tmp 2) (.tmp 13) rfl w.heap.size rfl ⟨46,0,1,none,none,none,true⟩ rfl (there_alloc _ hsz HT.out) ?_;intro Y hY hl;have HY:=Lib.hid hY;have HL:=Lib.hid hl;clear hY hl)
  refine bodyPost_ret (results_cell rfl rfl HL.out) rfl ⟨rfl,?_⟩
  rw [HY.out]
  exact below_setCells (Nat.le_refl _) _ _ _ (below_last HB1.out _)
theorem df3_165 (w:World):Calls Tryz.prog 50 #[.int .i64 165] w fun e w'=>e=.returned (lfV (afterF3L 165))∧Below w.heap.size w w':=by
  have HB:∀ u,Calls Tryz.prog 71 #[.int .i64 165] u fun e w'=>e=.returned (.agg #[.int .i64 46,.int .i64 0,.int .i64 4,.nilFunc,.nilFunc,.nilFunc,.bool false])∧Below u.heap.size u w':=fun u=>dbare_165 u
  have HB:=Lib.hid HB
  go_enter Tryz.func50,Tryz.ntmps50
  go_wp2_with fail
  refine (HB.out _).mono ?_
  rintro e w1 ⟨rfl,hb1⟩
  have HT:=Lib.hid (there_last (n:=7) hb1 (by decide))
  have hsz:w.heap.size < w1.heap.size:=by have:=hb1.size;simp at this;omega
  have HB1:=Lib.hid (below_first hb1)
  clear hb1
  go_wp2_with (refine store_lf rfl (.tmp 2) (.tmp 13) rfl w.heap.size rfl ⟨46,0,4,none,none,none,true⟩ rfl (there_alloc _ hsz HT.out) ?_;intro Y hY hl;have HY:=Lib.hid hY;have HL:=Lib.hid hl;clear hY hl)
  refine bodyPost_ret (results_cell rfl rfl HL.out) rfl ⟨rfl,?_⟩
  rw [HY.out]
  exact below_setCells (Nat.le_refl _) _ _ _ (below_last HB1.out _)
theorem df3_170 (w:World):Calls Tryz.prog 50 #[.int .i64 170] w fun e w'=>e=.returned (lfV (afterF3L 170))∧Below w.heap.size w w':=by
  have HB:∀ u,Calls Tryz.prog 71 #[.int .i64 170] u fun e w'=>e=.returned (.agg #[.int .i64 47,.int .i64 0,.int .i64 1,.nilFunc,.nilFunc,.nilFunc,.bool false])∧Below u.heap.size u w':=fun u=>dbare_170 u
  have HB:=Lib.hid HB
  go_enter Tryz.func50,Tryz.ntmps50
  go_wp2_with fail
  refine (HB.out _).mono ?_
  rintro e w1 ⟨rfl,hb1⟩
  have HT:=Lib.hid (there_last (n:=7) hb1 (by decide))
  have hsz:w.heap.size < w1.heap.size:=by have:=hb1.size;simp at this;omega
  have HB1:=Lib.hid (below_first hb1)
  clear hb1
  go_wp2_with (refine store_lf rfl (.tmp 2) (.tmp 13) rfl w.heap.size rfl ⟨47,0,1,none,none,none,true⟩ rfl (there_alloc _ hsz HT.out) ?_;intro Y hY hl;have HY:=Lib.hid hY;have HL:=Lib.hid hl;clear hY hl)
  refine bodyPost_ret (results_cell rfl rfl HL.out) rfl ⟨rfl,?_⟩
  rw [HY.out]
  exact below_setCells (Nat.le_refl _) _ _ _ (below_last HB1.out _)
theorem df3_171 (w:World):Calls Tryz.prog 50 #[.int .i64 171] w fun e w'=>e=.returned (lfV (afterF3L 171))∧Below w.heap.size w w':=by
  have HB:∀ u,Calls Tryz.prog 71 #[.int .i64 171] u fun e w'=>e=.returned (.agg #[.int .i64 47,.int .i64 0,.int .i64 4,.nilFunc,.nilFunc,.nilFunc,.bool false])∧Below u.heap.size u w':=fun u=>dbare_171 u
  have HB:=Lib.hid HB
  go_enter Tryz.func50,Tryz.ntmps50
  go_wp2_with fail
  refine (HB.out _).mono ?_
  rintro e w1 ⟨rfl,hb1⟩
  have HT:=Lib.hid (there_last (n:=7) hb1 (by decide))
  have hsz:w.heap.size < w1.heap.size:=by have:=hb1.size;simp at this;omega
  have HB1:=Lib.hid (below_first hb1)
  clear hb1
  go_wp2_with (refine store_lf rfl (.tmp 2) (.tmp 13) rfl w.heap.size rfl ⟨47,0,4,none,none,none,true⟩ rfl (there_alloc _ hsz HT.out) ?_;intro Y hY hl;have HY:=Lib.hid hY;have HL:=Lib.hid hl;clear hY hl)
  refine bodyPost_ret (results_cell rfl rfl HL.out) rfl ⟨rfl,?_⟩
  rw [HY.out]
  exact below_setCells (Nat.le_refl _) _ _ _ (below_last HB1.out _)
theorem df3_any (c:Int) (w:World):Calls Tryz.prog 50 #[.int .i64 c] w fun e w'=>e=.returned (lfV (afterF3L c))∧Below w.heap.size w w':=by
  by_cases n164:c=164
  · subst n164;exact df3_164 w
  by_cases n165:c=165
  · subst n165;exact df3_165 w
  by_cases n170:c=170
  · subst n170;exact df3_170 w
  by_cases n171:c=171
  · subst n171;exact df3_171 w
  have hV:=Lib.hid (show afterF3L c=nilL by unfold afterF3L;rw [if_neg (by omega)])
  have e164:(c == 164)=false:=by simpa using n164
  have e165:(c == 165)=false:=by simpa using n165
  have e170:(c == 170)=false:=by simpa using n170
  have e171:(c == 171)=false:=by simpa using n171
  clear n164 n165 n170 n171
  go_enter Tryz.func50,Tryz.ntmps50
  go_wp2
  go_returns
  exact ⟨by rw [hV.out];rfl,BC.h⟩
end
end Go.Proofs.YtlnahkkemjgjbaaGreat
