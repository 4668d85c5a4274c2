import Derived.Test.YtmdncgfheeijaaaGreatKUG14
import Derived.Test.YtmdncgfheeijaaaGreatKUG5
namespace Go.Proofs.YtmdncgfheeijaaaGreat
open Go.ChangeShapes Go.WideShapes Go.ChangeAt Go.RowKit
set_option maxRecDepth 100000
set_option maxHeartbeats 4000000
theorem risalu_any(op:Int)(w:World):Calls Tryz.prog 12 #[.int .i64 op] w fun e w'=>e=.returned (.bool (isAluB op))∧w=w':=by
 by_cases h23:op=23
 ·subst h23
  go_enter Tryz.func12,Tryz.ntmps12
  go_wp2
  go_ret
  exact⟨rfl,rfl⟩
 have e23:(op==23)=false:=by simpa using h23
 by_cases h24:op=24
 ·subst h24
  go_enter Tryz.func12,Tryz.ntmps12
  go_wp2
  go_ret
  exact⟨rfl,rfl⟩
 have e24:(op==24)=false:=by simpa using h24
 by_cases h35:op=35
 ·subst h35
  go_enter Tryz.func12,Tryz.ntmps12
  go_wp2
  go_ret
  exact⟨rfl,rfl⟩
 have e35:(op==35)=false:=by simpa using h35
 by_cases h36:op=36
 ·subst h36
  go_enter Tryz.func12,Tryz.ntmps12
  go_wp2
  go_ret
  exact⟨rfl,rfl⟩
 have e36:(op==36)=false:=by simpa using h36
 by_cases h37:op=37
 ·subst h37
  go_enter Tryz.func12,Tryz.ntmps12
  go_wp2
  go_ret
  exact⟨rfl,rfl⟩
 have e37:(op==37)=false:=by simpa using h37
 by_cases h38:op=38
 ·subst h38
  go_enter Tryz.func12,Tryz.ntmps12
  go_wp2
  go_ret
  exact⟨rfl,rfl⟩
 have e38:(op==38)=false:=by simpa using h38
 by_cases h41:op=41
 ·subst h41
  go_enter Tryz.func12,Tryz.ntmps12
  go_wp2
  go_ret
  exact⟨rfl,rfl⟩
 have e41:(op==41)=false:=by simpa using h41
 by_cases h42:op=42
 ·subst h42
  go_enter Tryz.func12,Tryz.ntmps12
  go_wp2
  go_ret
  exact⟨rfl,rfl⟩
 have e42:(op==42)=false:=by simpa using h42
 by_cases h43:op=43
 ·subst h43
  go_enter Tryz.func12,Tryz.ntmps12
  go_wp2
  go_ret
  exact⟨rfl,rfl⟩
 have e43:(op==43)=false:=by simpa using h43
 by_cases h44:op=44
 ·subst h44
  go_enter Tryz.func12,Tryz.ntmps12
  go_wp2
  go_ret
  exact⟨rfl,rfl⟩
 have e44:(op==44)=false:=by simpa using h44
 by_cases h45:op=45
 ·subst h45
  go_enter Tryz.func12,Tryz.ntmps12
  go_wp2
  go_ret
  exact⟨rfl,rfl⟩
 have e45:(op==45)=false:=by simpa using h45
 by_cases h50:op=50
 ·subst h50
  go_enter Tryz.func12,Tryz.ntmps12
  go_wp2
  go_ret
  exact⟨rfl,rfl⟩
 have e50:(op==50)=false:=by simpa using h50
 obtain⟨B,hB⟩:∃B,decide (1≤op∧op≤30)=B:=⟨_,rfl⟩
 have HV:=Lib.hid (show isAluB op=B by rw[←hB];unfold isAluB;simp only[e23,e24,e35,e36,e37,e38,e41,e42,e43,e44,e45,e50];simp)
 have HIN:=Lib.hid (in13_is hB)
 clear hB h23 h24 h35 h36 h37 h38 h41 h42 h43 h44 h45 h50
 go_enter Tryz.func12,Tryz.ntmps12
 go_wp2_with (go_at_call 28;refine(HIN.out _).mono ?_;rintro e w' ⟨rfl,rfl⟩)
 go_ret
 exact⟨by rw[HV.out];rfl,rfl⟩
end Go.Proofs.YtmdncgfheeijaaaGreat
