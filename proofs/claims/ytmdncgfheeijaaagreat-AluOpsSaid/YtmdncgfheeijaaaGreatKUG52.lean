import Derived.Test.YtmdncgfheeijaaaGreatKUG25
import Derived.Test.YtmdncgfheeijaaaGreatKUG49
namespace Go.Proofs.YtmdncgfheeijaaaGreat
open Go.ChangeShapes Go.WideShapes Go.ChangeAt Go.RowKit
set_option maxRecDepth 100000
set_option maxHeartbeats 8000000
theorem aluops_walk(HDO:DoC 17)(HIS:IsC 15)(HON:OneC 10)(op:Int)(w:World):Calls Tryz.prog 5 #[.int .i64 op] w fun e w'=>e=.returned (.bool true)∧Below w.heap.size w w':=by
 have HI:=Lib.hid (fun op u=>HIS op u)
 have HK:=Lib.hid (known15_any HDO HIS HON)
 go_enter Tryz.func5,Tryz.ntmps5
 go_wp2_with fail
 ((with_reducible refine(HK.out _).mono ?_);rintro e w1 ⟨rfl,b1⟩)
 have HB1:=Lib.hid b1
 clear b1
 go_wp2_with fail
 go_loopw [3] (fun v wr=>∃n:Nat,n≤64∧v=.int .i64 ((n:Int)-1)∧Below w.heap.size w wr) (fun v _=>64-(intOf v+1).toNat)
 case atStart=>exact⟨0,by omega,rfl,HB1.out⟩
 case round=>
  obtain⟨n,hn,rfl,hb⟩:=hrel
  have HB:=Lib.hid hb
  clear hb
  by_cases hlt:n<64
  ·have hd:decide ((n:Int)-1≤62)=true:=decide_eq_true (by omega)
   obtain⟨q,hq⟩:∃q:Bool,isAluB ((n:Int)-1)=q:=⟨_,rfl⟩
   have HI1:=Lib.hid (fun u=>HI.out ((n:Int)-1) u)
   have HR1:=Lib.hid (fun u=>risalu_any ((n:Int)-1) u)
   rw[hq]at HI1 HR1
   clear hq
   go_wp2_with fail
   ((with_reducible refine(HI1.out _).mono ?_);rintro e w2 ⟨rfl,b2⟩)
   have HB2:=Lib.hid (below_step HB.out b2)
   clear b2
   go_wp2_with fail
   ((with_reducible refine(HR1.out _).mono ?_);rintro e w3 ⟨rfl,rfl⟩)
   have hqq:(q != q)=false:=by cases q<;>rfl
   go_wp2_with fail
   go_roundw
   case rel=>exact⟨n+1,by omega,by go_num,HB2.out⟩
   case measure=>simp[intOf];omega
  ·have hd:decide ((n:Int)-1≤62)=false:=decide_eq_false (by omega)
   obtain⟨q,hq⟩:∃q:Bool,isAluB op=q:=⟨_,rfl⟩
   have HI1:=Lib.hid (fun u=>HI.out op u)
   have HR1:=Lib.hid (fun u=>risalu_any op u)
   rw[hq]at HI1 HR1
   clear hq
   go_wp2_with fail
   ((with_reducible refine(HI1.out _).mono ?_);rintro e w2 ⟨rfl,b2⟩)
   have HB2:=Lib.hid (below_step HB.out b2)
   clear b2
   go_wp2_with fail
   ((with_reducible refine(HR1.out _).mono ?_);rintro e w3 ⟨rfl,rfl⟩)
   have hqq:(q==q)=true:=by cases q<;>rfl
   go_wp2_with fail
   go_returns
   exact⟨rfl,HB2.out⟩
end Go.Proofs.YtmdncgfheeijaaaGreat
