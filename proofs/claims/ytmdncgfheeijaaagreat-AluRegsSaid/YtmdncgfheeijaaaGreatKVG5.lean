import Derived.Test.YtmdncgfheeijaaaGreatRows
import Derived.ProofKit
import Derived.OpenShut
import Derived.BigRegion
import Derived.Lib.Hide
import Derived.WalkLawsBesides
import Derived.Maps.OwnSet
import Derived.Laws.IdiomCopy
import Derived.Sort.AssemblyPlain
import Derived.Sort.Row
import Derived.BigGuard
import Derived.BigCall
import Derived.BigQuiet
import Derived.CellFam
import Derived.Deep.Draws
import Derived.Deep.QuietTactic
import Derived.Deep.DeepCutAuto
import Derived.Test.YtmdncgfheeijaaaGreatKVG4
namespace Go.Proofs.YtmdncgfheeijaaaGreat
section
open Go.ChangeShapes Go.WideShapes Go.ChangeAt Go.RowKit
set_option maxRecDepth 100000
theorem rknown_yes(op:Int)(w:World)(h:op=26∨op=27∨op=28∨op=29∨op=30):Calls Tryz.prog 135 #[.int .i64 op] w fun e w'=>e=.returned (.bool true)∧w=w':=by
 rcases h with rfl|rfl|rfl|rfl|rfl
 all_goals
  go_enter Tryz.func135,Tryz.ntmps135
  go_wp2
  go_ret
  exact⟨rfl,rfl⟩
theorem rknown_no(op:Int)(w:World)(h1:(op==26)=false)(h2:(op==27)=false)(h3:(op==28)=false)(h4:(op==29)=false)(h5:(op==30)=false):Calls Tryz.prog 135 #[.int .i64 op] w fun e w'=>e=.returned (.bool false)∧w=w':=by
 go_enter Tryz.func135,Tryz.ntmps135
 go_wp2
 go_ret
 exact⟨rfl,rfl⟩
theorem rlogic4(v:Int)(w:World)(h0:0≤v)(h1:v<4294967296):Calls Tryz.prog 109 #[.int .u32 v,.int .i64 4] w fun e w'=>
  e=.returned (.tuple #[.int .u32 v,.agg #[.bool false,.bool (par v),.bool (zer v),.bool (bt v 31),.bool false,.bool false]])∧Below w.heap.size w w':=by
 have h:=rlogic_any v 4 w h0 h1
 rw[show cut v 4=v from Int.emod_eq_of_lt h0 h1]at h
 exact h
attribute [local go_sem] isSome_setCell
theorem shlV_zero(v:Int)(h0:0≤v)(h1:v<4294967296):shlV v 0=v:=(zero_V v h0 h1).1
theorem shrV_zero(v:Int)(h0:0≤v)(h1:v<4294967296):shrV v 0=v:=(zero_V v h0 h1).2.1
theorem sarV_zero(v:Int)(h0:0≤v)(h1:v<4294967296):sarV v 0=v:=(zero_V v h0 h1).2.2.1
theorem rolV_zero(v:Int)(h0:0≤v)(h1:v<4294967296):rolV v 0=v:=(zero_V v h0 h1).2.2.2.1
theorem rorV_zero(v:Int)(h0:0≤v)(h1:v<4294967296):rorV v 0=v:=(zero_V v h0 h1).2.2.2.2
set_option maxHeartbeats 4000000
theorem rshift_shl(fc fp fz fs fo fd:Bool)(v n:Int)(k:Nat)(h0:0≤v)(h1:v<4294967296)(hk1:1≤k)(hk:k<32)(hn:bits .and .u32 n 31=(k:Int))(w:World):
  Calls Tryz.prog 113 #[.int .i64 28,.agg #[.bool fc,.bool fp,.bool fz,.bool fs,.bool fo,.bool fd],.int .u32 v,.int .u32 n] w fun e w'=>
  e=.returned (.tuple #[.int .u32 (shlV v k),.agg #[.bool (shlC v k),.bool (par (shlV v k)),.bool (zer (shlV v k)),.bool (bt (shlV v k) 31),.bool (!(bt (shlV v k) 31==shlC v k)),.bool fd]])∧Below w.heap.size w w':=by
 have hk0:((k:Int)==0)=false:=by rw[beq_eq_false_iff_ne];omega
 go_enter Tryz.func113,Tryz.ntmps113
 go_wp2_with (go_at_call 135;refine(rknown_yes 28 _ (by decide)).mono ?_;rintro e w' ⟨rfl,rfl⟩)
 go_loop [10,11,12] (fun x c i=>∃j:Nat,j≤k∧i=.int .u32 j∧x=.int .u32 (shlV v j)∧c=.bool (shlC v j)) (fun _ _ i=>k-(intOf i).toNat)
 case atStart=>exact⟨0,by omega,rfl,by rw[shlV_zero v h0 h1],rfl⟩
 case round=>
  obtain⟨j,hj,rfl,rfl,rfl⟩:=hrel
  have l0:=shl_lo v j
  have l1:=shl_hi v j
  by_cases hlt:j<k
  ·have hS:=Lib.hid (shl_step v j)
   have hC:=Lib.hid (top_eq (shlV v j) l0 l1)
   go_wp2
   go_round
   case rel=>exact⟨j+1,by omega,by go_num,by rw[hS.out],by rw[hC.out];rfl⟩
   case measure=>simp[intOf];omega
  ·obtain rfl:j=k:=by omega
   have ht:=top_eq (shlV v j) l0 l1
   go_wp2_with (go_at_call 109;refine(rlogic4 _ _ l0 l1).mono ?_;rintro e w1 ⟨rfl,hb⟩;obtain⟨hc,hf⟩:=bcell hb;have hz:w.heap.size+2<w1.heap.size:=(by have:=hb.size;simp at this;omega);have hy:w.heap.size<w1.heap.size:=(by omega);have hy1:w.heap.size+1<w1.heap.size:=(by omega))
   go_region
   all_goals
    go_wp2
    have hB:Below w.heap.size w w1:=((((Below.refl _ _).alloc (Nat.le_refl _) _).alloc (by simp) _).alloc (by simp;omega) _).trans (hb.mono (by simp;omega))
    refine bodyPost_ret (v:=.tuple #[.int .u32 (shlV v j),.agg #[.bool (shlC v j),.bool (par (shlV v j)),.bool (zer (shlV v j)),.bool (bt (shlV v j) 31),.bool (!(bt (shlV v j) 31==shlC v j)),.bool fd]]) (by simp[results,Tryz.results113,go_sem,hc]) rfl ⟨rfl,?_⟩
    repeat' (first|(with_reducible exact hB)|(with_reducible refine Below.drew ?_)|(with_reducible refine Below.setCell ?_ ?_ _)|(with_reducible refine Below.alloc ?_ ?_ _)|(simp<;>omega))
theorem rshift_shr(fc fp fz fs fo fd:Bool)(v n:Int)(k:Nat)(h0:0≤v)(h1:v<4294967296)(hk1:1≤k)(hk:k<32)(hn:bits .and .u32 n 31=(k:Int))(w:World):
  Calls Tryz.prog 113 #[.int .i64 29,.agg #[.bool fc,.bool fp,.bool fz,.bool fs,.bool fo,.bool fd],.int .u32 v,.int .u32 n] w fun e w'=>
  e=.returned (.tuple #[.int .u32 (shrV v k),.agg #[.bool (shrC v k),.bool (par (shrV v k)),.bool (zer (shrV v k)),.bool (bt (shrV v k) 31),.bool (bt v 31),.bool fd]])∧Below w.heap.size w w':=by
 have hk0:((k:Int)==0)=false:=by rw[beq_eq_false_iff_ne];omega
 go_enter Tryz.func113,Tryz.ntmps113
 go_wp2_with (go_at_call 135;refine(rknown_yes 29 _ (by decide)).mono ?_;rintro e w' ⟨rfl,rfl⟩)
 go_loop [10,11,12] (fun x c i=>∃j:Nat,j≤k∧i=.int .u32 j∧x=.int .u32 (shrV v j)∧c=.bool (shrC v j)) (fun _ _ i=>k-(intOf i).toNat)
 case atStart=>exact⟨0,by omega,rfl,by rw[shrV_zero v h0 h1],rfl⟩
 case round=>
  obtain⟨j,hj,rfl,rfl,rfl⟩:=hrel
  have l0:=shr_lo v j h0
  have l1:=shr_hi v j h0 h1
  by_cases hlt:j<k
  ·have hS:=Lib.hid (shr_step v j)
   have hC:=Lib.hid (low_eq (shrV v j) l0 l1)
   go_wp2
   go_round
   case rel=>exact⟨j+1,by omega,by go_num,by rw[hS.out],by rw[hC.out];rfl⟩
   case measure=>simp[intOf];omega
  ·obtain rfl:j=k:=by omega
   have ht:=top_eq v h0 h1
   go_wp2_with (go_at_call 109;refine(rlogic4 _ _ l0 l1).mono ?_;rintro e w1 ⟨rfl,hb⟩;obtain⟨hc,hf⟩:=bcell hb;have hz:w.heap.size+2<w1.heap.size:=(by have:=hb.size;simp at this;omega);have hy:w.heap.size<w1.heap.size:=(by omega);have hy1:w.heap.size+1<w1.heap.size:=(by omega))
   go_region
   all_goals
    go_wp2
    have hB:Below w.heap.size w w1:=((((Below.refl _ _).alloc (Nat.le_refl _) _).alloc (by simp) _).alloc (by simp;omega) _).trans (hb.mono (by simp;omega))
    refine bodyPost_ret (v:=.tuple #[.int .u32 (shrV v j),.agg #[.bool (shrC v j),.bool (par (shrV v j)),.bool (zer (shrV v j)),.bool (bt (shrV v j) 31),.bool (bt v 31),.bool fd]]) (by simp[results,Tryz.results113,go_sem,hc]) rfl ⟨rfl,?_⟩
    repeat' (first|(with_reducible exact hB)|(with_reducible refine Below.drew ?_)|(with_reducible refine Below.setCell ?_ ?_ _)|(with_reducible refine Below.alloc ?_ ?_ _)|(simp<;>omega))
theorem rshift_sar(fc fp fz fs fo fd:Bool)(v n:Int)(k:Nat)(h0:0≤v)(h1:v<4294967296)(hk1:1≤k)(hk:k<32)(hn:bits .and .u32 n 31=(k:Int))(w:World):
  Calls Tryz.prog 113 #[.int .i64 30,.agg #[.bool fc,.bool fp,.bool fz,.bool fs,.bool fo,.bool fd],.int .u32 v,.int .u32 n] w fun e w'=>
  e=.returned (.tuple #[.int .u32 (sarV v k),.agg #[.bool (sarC v k),.bool (par (sarV v k)),.bool (zer (sarV v k)),.bool (bt (sarV v k) 31),.bool false,.bool fd]])∧Below w.heap.size w w':=by
 have hk0:((k:Int)==0)=false:=by rw[beq_eq_false_iff_ne];omega
 go_enter Tryz.func113,Tryz.ntmps113
 go_wp2_with (go_at_call 135;refine(rknown_yes 30 _ (by decide)).mono ?_;rintro e w' ⟨rfl,rfl⟩)
 go_loop [10,11,12] (fun x c i=>∃j:Nat,j≤k∧i=.int .u32 j∧x=.int .u32 (sarV v j)∧c=.bool (sarC v j)) (fun _ _ i=>k-(intOf i).toNat)
 case atStart=>exact⟨0,by omega,rfl,by rw[sarV_zero v h0 h1],rfl⟩
 case round=>
  obtain⟨j,hj,rfl,rfl,rfl⟩:=hrel
  have l0:=sar_lo v j
  have l1:=sar_hi v j
  by_cases hlt:j<k
  ·have hS:=Lib.hid ((sar_or (sarV v j) l0 l1).trans (sar_step v j (by omega)))
   have hC:=Lib.hid (low_eq (sarV v j) l0 l1)
   go_wp2
   go_round
   case rel=>exact⟨j+1,by omega,by go_num,by rw[hS.out],by rw[hC.out];rfl⟩
   case measure=>simp[intOf];omega
  ·obtain rfl:j=k:=by omega
   skip
   go_wp2_with (go_at_call 109;refine(rlogic4 _ _ l0 l1).mono ?_;rintro e w1 ⟨rfl,hb⟩;obtain⟨hc,hf⟩:=bcell hb;have hz:w.heap.size+2<w1.heap.size:=(by have:=hb.size;simp at this;omega);have hy:w.heap.size<w1.heap.size:=(by omega);have hy1:w.heap.size+1<w1.heap.size:=(by omega))
   go_region
   all_goals
    go_wp2
    have hB:Below w.heap.size w w1:=((((Below.refl _ _).alloc (Nat.le_refl _) _).alloc (by simp) _).alloc (by simp;omega) _).trans (hb.mono (by simp;omega))
    refine bodyPost_ret (v:=.tuple #[.int .u32 (sarV v j),.agg #[.bool (sarC v j),.bool (par (sarV v j)),.bool (zer (sarV v j)),.bool (bt (sarV v j) 31),.bool false,.bool fd]]) (by simp[results,Tryz.results113,go_sem,hc]) rfl ⟨rfl,?_⟩
    repeat' (first|(with_reducible exact hB)|(with_reducible refine Below.drew ?_)|(with_reducible refine Below.setCell ?_ ?_ _)|(with_reducible refine Below.alloc ?_ ?_ _)|(simp<;>omega))
theorem rshift_rol(fc fp fz fs fo fd:Bool)(v n:Int)(k:Nat)(h0:0≤v)(h1:v<4294967296)(hk1:1≤k)(hk:k<32)(hn:bits .and .u32 n 31=(k:Int))(w:World):
  Calls Tryz.prog 113 #[.int .i64 26,.agg #[.bool fc,.bool fp,.bool fz,.bool fs,.bool fo,.bool fd],.int .u32 v,.int .u32 n] w fun e w'=>
  e=.returned (.tuple #[.int .u32 (rolV v k),.agg #[.bool (rolC v k),.bool fp,.bool fz,.bool fs,.bool (!(bt (rolV v k) 31==rolC v k)),.bool fd]])∧Below w.heap.size w w':=by
 have hk0:((k:Int)==0)=false:=by rw[beq_eq_false_iff_ne];omega
 go_enter Tryz.func113,Tryz.ntmps113
 go_wp2_with (go_at_call 135;refine(rknown_yes 26 _ (by decide)).mono ?_;rintro e w' ⟨rfl,rfl⟩)
 go_loop [10,11,12] (fun x c i=>∃j:Nat,j≤k∧i=.int .u32 j∧x=.int .u32 (rolV v j)∧c=.bool (rolC v j)) (fun _ _ i=>k-(intOf i).toNat)
 case atStart=>exact⟨0,by omega,rfl,by rw[rolV_zero v h0 h1],rfl⟩
 case round=>
  obtain⟨j,hj,rfl,rfl,rfl⟩:=hrel
  have l0:=rol_lo v j h0
  have l1:=rol_hi v j (by omega) h0 h1
  by_cases hlt:j<k
  ·have hS:=Lib.hid ((rol_or (rolV v j) l0 l1).trans (rol_step v j (by omega) h0 h1))
   have hC:=Lib.hid (low_eq (rolV v (j+1)) (rol_lo v _ h0) (rol_hi v _ (by omega) h0 h1))
   go_wp2
   go_round
   case rel=>exact⟨j+1,by omega,by go_num,by rw[hS.out],by rw[hS.out,hC.out];rfl⟩
   case measure=>simp[intOf];omega
  ·obtain rfl:j=k:=by omega
   have ht:=top_eq (rolV v j) l0 l1
   go_wp2
   go_region
   all_goals
    go_wp2
    have hB:=Below.refl w.heap.size w
    refine bodyPost_ret (v:=.tuple #[.int .u32 (rolV v j),.agg #[.bool (rolC v j),.bool fp,.bool fz,.bool fs,.bool (!(bt (rolV v j) 31==rolC v j)),.bool fd]]) (by simp[results,Tryz.results113,go_sem]) rfl ⟨rfl,?_⟩
    repeat' (first|(with_reducible exact hB)|(with_reducible refine Below.drew ?_)|(with_reducible refine Below.setCell ?_ ?_ _)|(with_reducible refine Below.alloc ?_ ?_ _)|(simp<;>omega))
theorem rshift_ror(fc fp fz fs fo fd:Bool)(v n:Int)(k:Nat)(h0:0≤v)(h1:v<4294967296)(hk1:1≤k)(hk:k<32)(hn:bits .and .u32 n 31=(k:Int))(w:World):
  Calls Tryz.prog 113 #[.int .i64 27,.agg #[.bool fc,.bool fp,.bool fz,.bool fs,.bool fo,.bool fd],.int .u32 v,.int .u32 n] w fun e w'=>
  e=.returned (.tuple #[.int .u32 (rorV v k),.agg #[.bool (rorC v k),.bool fp,.bool fz,.bool fs,.bool (bt (rorV v k) 31 != bt (rorV v k) 30),.bool fd]])∧Below w.heap.size w w':=by
 have hk0:((k:Int)==0)=false:=by rw[beq_eq_false_iff_ne];omega
 go_enter Tryz.func113,Tryz.ntmps113
 go_wp2_with (go_at_call 135;refine(rknown_yes 27 _ (by decide)).mono ?_;rintro e w' ⟨rfl,rfl⟩)
 go_loop [10,11,12] (fun x c i=>∃j:Nat,j≤k∧i=.int .u32 j∧x=.int .u32 (rorV v j)∧c=.bool (rorC v j)) (fun _ _ i=>k-(intOf i).toNat)
 case atStart=>exact⟨0,by omega,rfl,by rw[rorV_zero v h0 h1],rfl⟩
 case round=>
  obtain⟨j,hj,rfl,rfl,rfl⟩:=hrel
  have l0:=ror_lo v j h0
  have l1:=ror_hi v j (by omega) h0 h1
  by_cases hlt:j<k
  ·have hS:=Lib.hid ((ror_or (rorV v j) l0 l1).trans (ror_step v j (by omega)))
   have hC:=Lib.hid (top_eq (rorV v (j+1)) (ror_lo v _ h0) (ror_hi v _ (by omega) h0 h1))
   go_wp2
   go_round
   case rel=>exact⟨j+1,by omega,by go_num,by rw[hS.out],by rw[hS.out,hC.out];rfl⟩
   case measure=>simp[intOf];omega
  ·obtain rfl:j=k:=by omega
   have ht:=two_tops (rorV v j) l0 l1
   go_wp2
   go_region
   all_goals
    go_wp2
    have hB:=Below.refl w.heap.size w
    refine bodyPost_ret (v:=.tuple #[.int .u32 (rorV v j),.agg #[.bool (rorC v j),.bool fp,.bool fz,.bool fs,.bool (bt (rorV v j) 31 != bt (rorV v j) 30),.bool fd]]) (by simp[results,Tryz.results113,go_sem]) rfl ⟨rfl,?_⟩
    repeat' (first|(with_reducible exact hB)|(with_reducible refine Below.drew ?_)|(with_reducible refine Below.setCell ?_ ?_ _)|(with_reducible refine Below.alloc ?_ ?_ _)|(simp<;>omega))
theorem rshift_nought(op:Int)(fc fp fz fs fo fd:Bool)(v n:Int)(hn:bits .and .u32 n 31=0)(w:World):
  Calls Tryz.prog 113 #[.int .i64 op,.agg #[.bool fc,.bool fp,.bool fz,.bool fs,.bool fo,.bool fd],.int .u32 v,.int .u32 n] w fun e w'=>
  e=.returned (.tuple #[.int .u32 v,.agg #[.bool fc,.bool fp,.bool fz,.bool fs,.bool fo,.bool fd]])∧Below w.heap.size w w':=by
 go_enter Tryz.func113,Tryz.ntmps113
 go_wp2
 go_region
 all_goals
  go_wp2
  refine bodyPost_ret (v:=.tuple #[.int .u32 v,.agg #[.bool fc,.bool fp,.bool fz,.bool fs,.bool fo,.bool fd]]) (by simp[results,Tryz.results113,go_sem]) rfl ⟨rfl,?_⟩
  have hB:=Below.refl w.heap.size w
  repeat' (first|(with_reducible exact hB)|(with_reducible refine Below.drew ?_)|(with_reducible refine Below.setCell ?_ ?_ _)|(with_reducible refine Below.alloc ?_ ?_ _)|(simp<;>omega))
theorem rshift_other(op:Int)(fc fp fz fs fo fd:Bool)(v n:Int)(k:Nat)(hn:bits .and .u32 n 31=(k:Int))(hk0:((k:Int)==0)=false)(h1:(op==26)=false)(h2:(op==27)=false)(h3:(op==28)=false)(h4:(op==29)=false)(h5:(op==30)=false)(w:World):
  Calls Tryz.prog 113 #[.int .i64 op,.agg #[.bool fc,.bool fp,.bool fz,.bool fs,.bool fo,.bool fd],.int .u32 v,.int .u32 n] w fun e w'=>
  e=.returned (.tuple #[.int .u32 v,.agg #[.bool fc,.bool fp,.bool fz,.bool fs,.bool fo,.bool fd]])∧Below w.heap.size w w':=by
 go_enter Tryz.func113,Tryz.ntmps113
 go_wp2_with (go_at_call 135;refine(rknown_no op _ h1 h2 h3 h4 h5).mono ?_;rintro e w' ⟨rfl,rfl⟩)
 go_region
 all_goals
  go_wp2
  refine bodyPost_ret (v:=.tuple #[.int .u32 v,.agg #[.bool fc,.bool fp,.bool fz,.bool fs,.bool fo,.bool fd]]) (by simp[results,Tryz.results113,go_sem]) rfl ⟨rfl,?_⟩
  have hB:=Below.refl w.heap.size w
  repeat' (first|(with_reducible exact hB)|(with_reducible refine Below.drew ?_)|(with_reducible refine Below.setCell ?_ ?_ _)|(with_reducible refine Below.alloc ?_ ?_ _)|(simp<;>omega))
theorem rshift_any(op:Int)(fc fp fz fs fo fd:Bool)(v n:Int)(h0:0≤v)(h1:v<4294967296)(k0:0≤n)(k1:n<4294967296)(w:World):
  Calls Tryz.prog 113 #[.int .i64 op,.agg #[.bool fc,.bool fp,.bool fz,.bool fs,.bool fo,.bool fd],.int .u32 v,.int .u32 n] w fun e w'=>
  e=.returned (.tuple #[.int .u32 (shV op v (n%32).toNat),.agg #[.bool (sfC op v (n%32).toNat fc),.bool (sfP op v (n%32).toNat fp),.bool (sfZ op v (n%32).toNat fz),.bool (sfS op v (n%32).toNat fs),.bool (sfO op v (n%32).toNat fo),.bool fd]])∧Below w.heap.size w w':=by
 have hn:bits .and .u32 n 31=(((n%32).toNat:Nat):Int):=by rw[bits31 n k0 k1];omega
 have hk:(n%32).toNat<32:=by omega
 generalize (n%32).toNat=k at *
 rcases shift_ways op k with h|⟨h,hk1,ho⟩
 ·simp only[shV,sfC,sfP,sfZ,sfS,sfO,h,if_true]
  rcases kept_ways op k h with rfl|⟨g1,g2,g3,g4,g5⟩
  ·exact rshift_nought op fc fp fz fs fo fd v n hn w
  ·by_cases hz:k=0
   ·subst hz;exact rshift_nought op fc fp fz fs fo fd v n hn w
   ·exact rshift_other op fc fp fz fs fo fd v n k hn (by rw[beq_eq_false_iff_ne];omega) g1 g2 g3 g4 g5 w
 ·rcases ho with rfl|rfl|rfl|rfl|rfl<;>simp[shV,sfC,sfP,sfZ,sfS,sfO,h]
  ·exact rshift_rol fc fp fz fs fo fd v n k h0 h1 hk1 hk hn w
  ·exact rshift_ror fc fp fz fs fo fd v n k h0 h1 hk1 hk hn w
  ·exact rshift_shl fc fp fz fs fo fd v n k h0 h1 hk1 hk hn w
  ·exact rshift_shr fc fp fz fs fo fd v n k h0 h1 hk1 hk hn w
  ·exact rshift_sar fc fp fz fs fo fd v n k h0 h1 hk1 hk hn w
end
section
open Go.ChangeShapes Go.WideShapes Go.ChangeAt Go.RowKit
set_option maxRecDepth 100000
def condP(k:Nat)(fc fp fz fs fo:Bool):Bool:=[fo,fc,fz,fc || fz,fs,fp,fs != fo,fz || (fs != fo)].getD k false
def condH(c:Int)(fc fp fz fs fo:Bool):Bool:=if c<0∨15<c then false else condP (c/2).toNat fc fp fz fs fo != (c%2==1)
theorem sixteen(c:Int):c<0∨15<c∨c=0∨c=1∨c=2∨c=3∨c=4∨c=5∨c=6∨c=7∨c=8∨c=9∨c=10∨c=11∨c=12∨c=13∨c=14∨c=15:=by omega
set_option maxHeartbeats 4000000
theorem rholds_in(c:Int)(fc fp fz fs fo fd:Bool)(w:World)(c0:0≤c)(c1:c≤15):Calls Tryz.prog 111 #[.int .i64 c,.agg #[.bool fc,.bool fp,.bool fz,.bool fs,.bool fo,.bool fd]] w fun e w'=>e=.returned (.bool (condP (c/2).toNat fc fp fz fs fo != (c%2==1)))∧Below w.heap.size w w':=by
 obtain⟨j,hj⟩:∃j:Nat,c/2=j:=⟨(c/2).toNat,by omega⟩
 have hj8:j<8:=by omega
 have hj':=Lib.hid (show(c/2).toNat=j by omega)
 have d0:decide (c<0)=false:=by simp;omega
 have d1:decide (15<c)=false:=by simp;omega
 rw[hj'.out]
 cases fc<;>cases fz
 ·have hL:[Value.bool fo,Value.bool false,Value.bool false,Value.bool false,Value.bool fs,Value.bool fp,Value.bool (!(fs==fo)),Value.bool (!(fs==fo))][j]=Value.bool (condP j false fp false fs fo):=by
   obtain rfl|rfl|rfl|rfl|rfl|rfl|rfl|rfl:j=0∨j=1∨j=2∨j=3∨j=4∨j=5∨j=6∨j=7:=by omega
   all_goals rfl
  generalize condP j false fp false fs fo=B at *
  go_enter Tryz.func111,Tryz.ntmps111
  go_wp2
  go_ret
  exact⟨rfl,below_last (below_last (Below.refl _ _) _) _⟩
 ·have hL:[Value.bool fo,Value.bool false,Value.bool true,Value.bool true,Value.bool fs,Value.bool fp,Value.bool (!(fs==fo)),Value.bool true][j]=Value.bool (condP j false fp true fs fo):=by
   obtain rfl|rfl|rfl|rfl|rfl|rfl|rfl|rfl:j=0∨j=1∨j=2∨j=3∨j=4∨j=5∨j=6∨j=7:=by omega
   all_goals rfl
  generalize condP j false fp true fs fo=B at *
  go_enter Tryz.func111,Tryz.ntmps111
  go_wp2
  go_ret
  exact⟨rfl,below_last (below_last (Below.refl _ _) _) _⟩
 ·have hL:[Value.bool fo,Value.bool true,Value.bool false,Value.bool true,Value.bool fs,Value.bool fp,Value.bool (!(fs==fo)),Value.bool (!(fs==fo))][j]=Value.bool (condP j true fp false fs fo):=by
   obtain rfl|rfl|rfl|rfl|rfl|rfl|rfl|rfl:j=0∨j=1∨j=2∨j=3∨j=4∨j=5∨j=6∨j=7:=by omega
   all_goals rfl
  generalize condP j true fp false fs fo=B at *
  go_enter Tryz.func111,Tryz.ntmps111
  go_wp2
  go_ret
  exact⟨rfl,below_last (below_last (Below.refl _ _) _) _⟩
 ·have hL:[Value.bool fo,Value.bool true,Value.bool true,Value.bool true,Value.bool fs,Value.bool fp,Value.bool (!(fs==fo)),Value.bool true][j]=Value.bool (condP j true fp true fs fo):=by
   obtain rfl|rfl|rfl|rfl|rfl|rfl|rfl|rfl:j=0∨j=1∨j=2∨j=3∨j=4∨j=5∨j=6∨j=7:=by omega
   all_goals rfl
  generalize condP j true fp true fs fo=B at *
  go_enter Tryz.func111,Tryz.ntmps111
  go_wp2
  go_ret
  exact⟨rfl,below_last (below_last (Below.refl _ _) _) _⟩
theorem condH_in(c:Int)(fc fp fz fs fo:Bool)(c0:0≤c)(c1:c≤15):condH c fc fp fz fs fo=(condP (c/2).toNat fc fp fz fs fo != (c%2==1)):=by
 unfold condH;rw[if_neg (by omega)]
theorem condH_out(c:Int)(fc fp fz fs fo:Bool)(h:c<0∨15<c):condH c fc fp fz fs fo=false:=by
 unfold condH;rw[if_pos h]
theorem rholds_any(c:Int)(fc fp fz fs fo fd:Bool)(w:World):Calls Tryz.prog 111 #[.int .i64 c,.agg #[.bool fc,.bool fp,.bool fz,.bool fs,.bool fo,.bool fd]] w fun e w'=>e=.returned (.bool (condH c fc fp fz fs fo))∧Below w.heap.size w w':=by
 by_cases h:0≤c∧c≤15
 ·rw[condH_in c fc fp fz fs fo h.1 h.2];exact rholds_in c fc fp fz fs fo fd w h.1 h.2
 ·rw[condH_out c fc fp fz fs fo (by omega)]
  have d:decide (c<0)=true∨(decide (c<0)=false∧decide (15<c)=true):=by simp;omega
  clear h
  rcases d with d|⟨d,d'⟩
  all_goals
   go_enter Tryz.func111,Tryz.ntmps111
   go_wp2
   go_ret
   exact⟨rfl,below_last (Below.refl _ _) _⟩
end
section
set_option maxRecDepth 100000
def isAluB(op:Int):Bool:=!(op==23 || op==24)&&(op==35 || op==36 || op==37 || op==38 || op==41 || op==42 || op==43 || op==44 || op==45 || op==50 || decide (1≤op∧op≤30))
end
section
open Go.ChangeShapes Go.WideShapes Go.ChangeAt Go.RowKit Go.Maps Go.Deep
set_option maxRecDepth 100000
def ptrElem(v:Value):Option (DataW Unit×List MemPlace):=
 match v with
 | .pointer none=>some (.lit (.int .i64 (-1)),[])
 | .pointer (some ⟨k,0,none⟩)=>some (.lit (.int .i64 (k:Int)),[])
 |_=>none
def ptrOf:Option Nat→Value
 |none=>.pointer none
 |some k=>.pointer (some ⟨k,0,none⟩)
def codeOf:Option Nat→Int
 |none=>-1
 |some k=>(k:Int)
theorem ptrElem_of(o:Option Nat):ptrElem (ptrOf o)=some (.lit (.int .i64 (codeOf o)),[]):=by cases o<;>rfl
theorem ptrElem_inv{v:Value}{o:Option Nat}{ps:List MemPlace}(h:ptrElem v=some (.lit (.int .i64 (codeOf o)),ps)):v=ptrOf o:=by
 unfold ptrElem at h
 split at h
 ·cases o with
  |none=>rfl
  |some k=>injection h with h;injection h with h _;injection h with h;injection h with _ h;simp[codeOf]at h
 ·cases o with
  |none=>injection h with h;injection h with h _;injection h with h;injection h with _ h;simp[codeOf]at h
  |some k=>injection h with h;injection h with h _;injection h with h;injection h with _ h;simp only[codeOf]at h;rw[Int.ofNat_inj.1 h];rfl
 ·cases h
theorem zero_page(w:World):(zeroValue 118).run Tryz.prog w=.ok (.pointer none) w:=by kernel_rfl
def cnt(pt:Int→Option Nat):Nat→Nat
 |0=>0
 |x+1=>cnt pt x+if(pt (((x:Nat):Int)*4096)).isSome then 1 else 0
theorem cnt_le(pt:Int→Option Nat):∀x,cnt pt x≤x
 |0=>Nat.le_refl _
 |x+1=>by have:=cnt_le pt x;unfold cnt;split<;>omega
def setPt(pt:Int→Option Nat)(q:Int)(k:Nat):Int→Option Nat:=fun x=>if x=q then some k else pt x
theorem cnt_set(pt:Int→Option Nat)(y k:Nat)(h0:pt ((y:Int)*4096)=none):∀x,cnt (setPt pt ((y:Int)*4096) k) x=cnt pt x+if y<x then 1 else 0
 |0=>by simp[cnt]
 |x+1=>by
  have ih:=cnt_set pt y k h0 x
  unfold cnt
  rw[ih]
  by_cases hxy:x=y
  ·subst hxy
   rw[h0]
   simp[setPt]
  ·have hne:¬(((x:Nat):Int)*4096=(y:Int)*4096):=by omega
   have e:setPt pt ((y:Int)*4096) k (((x:Nat):Int)*4096)=pt (((x:Nat):Int)*4096):=by unfold setPt;rw[if_neg hne]
   rw[e]
   by_cases hlt:y<x
   ·simp[hlt,show y<x+1 by omega];omega
   ·simp[hlt,show ¬y<x+1 by omega]
structure PAt (w:World) (p:Nat) (F:Nat→Prop) (g:Int→Int) (pg:Int→Bool) (pt:Int→Option Nat) (B:Nat) (D:DataW Unit):Prop where
 cell:w.cell? ⟨p,0,none⟩=some (.map (some B))
 map:w.ownsMap Tryz.prog 22 ptrElem B (Maps.size D) D
 at_:∀q,0≤q→q<4294967296→D.atKey (.int .u32 q) (.lit (.int .i64 (-1)))=.lit (.int .i64 (codeOf (pt q)))
 has:∀q,Maps.has D (.int .u32 q)=(pt q).isSome
 size:∃N,N≤1048576∧Maps.size D≤cnt pt N∧1048576≤N
 page:∀q k,pt q=some k→(q%4096=0∧0≤q∧q<4294967296)∧F k∧k≠p∧k≠B∧w.rowIs k 143 4096 (fun i=>.int .u8 (g (q+i)))
 apart:∀q q' k,pt q=some k→pt q'=some k→q=q'
 none_:∀a,pt (a/4096*4096)=none→g a=0
 pgs:∀q,pg q=(pt q).isSome
 byte:∀a,0≤g a∧g a<256
 self:F p
 selfB:F B
 ne:p≠B
 lt:∀k,F k→k<w.heap.size
theorem PAt.but{F G:Nat→Prop}{w w':World}{p B:Nat}{g:Int→Int}{pg:Int→Bool}{pt:Int→Option Nat}{D:DataW Unit}(h:PAt w p F g pg pt B D)(hb:But G w w')(hn:∀k,F k→¬G k):PAt w' p F g pg pt B D:=
 ⟨hb.cell h.cell (hn _ h.self),hb.owns h.map (hn _ h.selfB),h.at_,h.has,h.size,fun q k hk=>by
  obtain⟨h1,h2,h3,h4,h5⟩:=h.page q k hk
  exact⟨h1,h2,h3,h4,h5.of_block (hb.block k (h.lt k h2) (hn k h2))⟩,h.apart,h.none_,h.pgs,h.byte,h.self,h.selfB,h.ne,fun k hk=>Nat.lt_of_lt_of_le (h.lt k hk) hb.size⟩
theorem PAt.below{F:Nat→Prop}{w w':World}{p B:Nat}{g:Int→Int}{pg:Int→Bool}{pt:Int→Option Nat}{D:DataW Unit}(h:PAt w p F g pg pt B D)(hb:Below w.heap.size w w'):PAt w' p F g pg pt B D:=
 h.but (G:=fun _=>False) (But.of_below hb) (fun _ _ h=>h)
theorem key_page(q:Int)(h0:0≤q)(h1:q<4294967296):keyOf Tryz.prog 22 (.int .u32 q)=some (.int .u32 q):=keyOf_int_mk Tryz.underlying22 (wf_u32 q h0 h1)
theorem PAt.get{F:Nat→Prop}{w:World}{p B:Nat}{g:Int→Int}{pg:Int→Bool}{pt:Int→Option Nat}{D:DataW Unit}(h:PAt w p F g pg pt B D)(q:Int)(h0:0≤q)(h1:q<4294967296):
  (Instr.lookup 113 (.map (some B)) (.int .u32 q) false).run Tryz.prog w=.ok (ptrOf (pt q)) w:=by
 obtain⟨v,ps,hrun,hv⟩:=h.map.lookup key_u32 Tryz.underlying113 (zero_page w) (ptrElem_of none) (key_page q h0 h1)
 rw[show(DataW.lit (.int .i64 (codeOf none)):DataW Unit)=.lit (.int .i64 (-1))from rfl,h.at_ q h0 h1]at hv
 rw[hrun,ptrElem_inv hv]
theorem PAt.setByte{F:Nat→Prop}{w:World}{p B:Nat}{g:Int→Int}{pg:Int→Bool}{pt:Int→Option Nat}{D:DataW Unit}(h:PAt w p F g pg pt B D){q:Int}{k:Nat}(hk:pt q=some k)(i:Nat)(hi:i<4096)(v:Int)(v0:0≤v)(v1:v<256):
  PAt (w.setCell ⟨k,i,none⟩ (.int .u8 v)) p F (setG g (q+i) v) pg pt B D:=by
 obtain⟨hq,hF,hp,hB,hrow⟩:=h.page q k hk
 have hbut:But (·=k) w (w.setCell ⟨k,i,none⟩ (.int .u8 v)):=(But.refl (·=k) w).setCell (a:=⟨k,i,none⟩) (fun _=>rfl) _
 refine⟨hbut.cell h.cell (fun e=>hp e.symm),hbut.owns h.map (fun e=>hB e.symm),h.at_,h.has,h.size,fun q' k' hk'=>?_,h.apart,fun a ha=>?_,h.pgs,fun a=>?_,h.self,h.selfB,h.ne,fun j hj=>by simpa using h.lt j hj⟩
 ·obtain⟨hq',hF',hp',hB',hrow'⟩:=h.page q' k' hk'
  refine⟨hq',hF',hp',hB',?_⟩
  by_cases e:k'=k
  ·subst e
   obtain rfl:=h.apart _ _ _ hk hk'
   refine(hrow.set i _).congr (fun j hj=>?_)
   unfold setG
   by_cases hji:j=i
   ·subst hji;simp
   ·rw[if_neg hji,if_neg (by omega)]
  ·refine(hrow'.setOther (by exact e) _).congr (fun j hj=>?_)
   unfold setG
   rw[if_neg]
   intro e2
   have:q'=q:=by omega
   subst this
   rw[hk]at hk'
   injection hk' with hk'
   exact e hk'.symm
 ·unfold setG
  rw[if_neg]
  ·exact h.none_ a ha
  ·intro e2
   rw[e2,show(q+i)/4096*4096=q by omega,hk]at ha
   cases ha
 ·unfold setG
  split
  ·exact⟨v0,v1⟩
  ·exact h.byte a
def isZ(v:Value):Bool:=
 match v with
 | .int .u8 0=>true
 |_=>false
theorem isZ_eq{v:Value}(h:isZ v=true):v=.int .u8 0:=by
 unfold isZ at h
 split at h
 ·rfl
 ·cases h
theorem pageZ:∃z:Array Value,(∀w,(zeroValue 143).run Tryz.prog w=.ok (.agg z) w)∧(z.toList.length==4096)=true∧(z.toList.all isZ)=true:=by
 refine⟨match(Tryz.prog.info? 143).bind (·.zero)with|some (.agg c)=>c|_=>#[],fun w=>?_,?_,?_⟩
 ·kernel_rfl
 ·kernel_rfl
 ·kernel_rfl
theorem alloc_page:∃z:Array Value,(∀w,(zeroValue 143).run Tryz.prog w=.ok (.agg z) w) ∧
  ∀w:World,(w.alloc (.cells z 143)).rowIs w.heap.size 143 4096 (fun _=>.int .u8 0):=by
 obtain⟨z,hz,hs,ha⟩:=pageZ
 have hs2:z.size=4096:=by simpa using hs
 refine⟨z,hz,fun w=>?_⟩
 ·have:=World.rowIs_alloc w z 143 (fun _=>.int .u8 0) (fun i hi=>by
   rw[Array.getElem?_eq_getElem hi]
   congr 1
   exact isZ_eq (List.all_eq_true.1 ha _ (by simp)))
  rwa[hs2]at this
end
section
open Go.ChangeShapes Go.WideShapes Go.ChangeAt Go.RowKit Go.Maps Go.Deep Go.Sort
set_option maxRecDepth 100000
def gt(d:Array Int)(t:Nat):Int:=d[t]!
structure Row (W w:World) (b:Nat) (d:Array Int):Prop where
 cell:∀t,t<d.size→w.cell? ⟨b,t,none⟩=some (.int .u32 (gt d t))
 fro:∀t,w.frozen? ⟨b,t,none⟩=false
 but:But (·=b) W w
theorem Row.drew{W w:World}{b:Nat}{d:Array Int}(h:Row W w b d):Row W w.drew b d:=⟨h.cell,h.fro,h.but.drew⟩
theorem Row.self{W w:World}{b:Nat}{d:Array Int}(h:Row W w b d):Row w w b d:=⟨h.cell,h.fro,But.refl _ _⟩
def ls(d:Array Int)(i j:Nat):Bool:=decide (gt d i<gt d j)
/-! insertion sort -/
end
end Go.Proofs.YtmdncgfheeijaaaGreat
