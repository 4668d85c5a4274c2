import Derived.Deep.RegionWith
import Derived.MapKept
import Derived.WideMake
import Derived.Test.YtmdncgfheeijaaaGreatKVG5
namespace Go.Proofs.YtmdncgfheeijaaaGreat
section
open Go.ChangeShapes Go.WideShapes Go.ChangeAt Go.RowKit
set_option maxRecDepth 100000
theorem sgn_four(v:Int):sgn v 4=wrap32 v:=by
 unfold sgn hi bt cut wid wrap32
 simp
 split<;>omega
theorem msigned_any(v:Int)(w:World):Calls Tryz.prog 125 #[.int .u32 v] w fun e w'=>e=.returned (.int .i64 (wrap32 v))∧w=w':=by
 have h0:=wrap32_lo v
 have h1:=wrap32_hi v
 have e:=sgn_four v
 go_enter Tryz.func125,Tryz.ntmps125
 go_wp2_with (go_at_call 128;refine(signed_any _ _ _).mono ?_;rintro e w' ⟨rfl,rfl⟩)
 go_ret
 exact⟨rfl,rfl⟩
theorem fits_any(v:Int)(w:World):Calls Tryz.prog 126 #[.int .i64 v] w fun e w'=>e=.returned (.bool (v==wrap32 v))∧w=w':=by
 have h0:=wrap32_lo v
 have h1:=wrap32_hi v
 go_enter Tryz.func126,Tryz.ntmps126
 go_wp2
 go_ret
 exact⟨rfl,rfl⟩
theorem halves_any(v:Int)(h0:0≤v)(h1:v≤18446744073709551615)(w:World):Calls Tryz.prog 123 #[.int .u64 v] w fun e w'=>e=.returned (.tuple #[.int .u32 (v/4294967296),.int .u32 (v%4294967296)])∧w=w':=by
 go_enter Tryz.func123,Tryz.ntmps123
 go_wp2
 go_ret2
 exact⟨rfl,rfl⟩
theorem halves_w(v:Int)(w:World):Calls Tryz.prog 123 #[.int .u64 (IntKind.u64.wrap v)] w fun e w'=>e=.returned (.tuple #[.int .u32 (v%18446744073709551616/4294967296),.int .u32 (v%4294967296)])∧w=w':=by
 have h:=halves_any (IntKind.u64.wrap v) (by rw[IntKind.wrap_u64];omega) (by rw[IntKind.wrap_u64];omega) w
 rw[IntKind.wrap_u64,show v%18446744073709551616%4294967296=v%4294967296 by omega]at h
 rw[IntKind.wrap_u64]
 exact h
theorem joined_any(h l:Int)(h0:0≤h)(h1:h<4294967296)(l0:0≤l)(l1:l<4294967296)(w:World):Calls Tryz.prog 127 #[.int .u32 h,.int .u32 l] w fun e w'=>e=.returned (.int .u64 (both h l))∧w=w':=by
 have hO:=both_or h l h0 h1 l0 l1
 go_enter Tryz.func127,Tryz.ntmps127
 go_wp2
 go_ret
 exact⟨rfl,rfl⟩
theorem told_any(fc fp fz fs fo fd o:Bool)(w:World):Calls Tryz.prog 124 #[.agg #[.bool fc,.bool fp,.bool fz,.bool fs,.bool fo,.bool fd],.bool o] w fun e w'=>
  e=.returned (.agg #[.bool o,.bool fp,.bool fz,.bool fs,.bool o,.bool fd])∧Below w.heap.size w w':=by
 go_enter Tryz.func124,Tryz.ntmps124
 go_wp2
 refine bodyPost_ret (v:=.agg #[.bool o,.bool fp,.bool fz,.bool fs,.bool o,.bool fd]) (by simp[results,Tryz.results124,go_sem]) rfl ⟨rfl,?_⟩
 exact((Below.refl _ _).alloc (Nat.le_refl _) _).alloc (by simp) _
attribute [local go_sem] isSome_setCell
set_option maxHeartbeats 1000000
theorem mul_any(fc fp fz fs fo fd:Bool)(a b:Int)(h0:0≤a)(h1:a<4294967296)(k0:0≤b)(k1:b<4294967296)(w:World):
  Calls Tryz.prog 93 #[.agg #[.bool fc,.bool fp,.bool fz,.bool fs,.bool fo,.bool fd],.int .u32 a,.int .u32 b] w fun e w'=>
  e=.returned (.tuple #[.int .u32 (mulH a b),.int .u32 (mulL a b),.agg #[.bool (mulC a b),.bool fp,.bool fz,.bool fs,.bool (mulC a b),.bool fd]])∧Below w.heap.size w w':=by
 have m0:=mul_lo a b h0 k0
 have m1:=mul_hi a b h1 k0 k1
 have hH:=Lib.hid (show mulH a b=a*b/4294967296 from rfl)
 have hL:=Lib.hid (show mulL a b=a*b%4294967296 from rfl)
 have hC:=Lib.hid (show mulC a b=(a*b/4294967296 != 0)from rfl)
 generalize hP:a*b=P at *
 go_enter Tryz.func93,Tryz.ntmps93
 go_wp2_with (first|(go_at_call 123;refine(halves_any _ ?_ ?_ _).mono ?_;rotate_left 2;rintro e w' ⟨rfl,rfl⟩;rotate_left 1;omega;omega)|(go_at_call 124;refine(told_any _ _ _ _ _ _ _ _).mono ?_;rintro e w1 ⟨rfl,hb⟩;obtain⟨hc,hf⟩:=bcell hb;have hz:w.heap.size+1<w1.heap.size:=(by have:=hb.size;simp at this;omega);have hy:w.heap.size<w1.heap.size:=(by omega)))
 all_goals
  go_wp2
  have hB:Below w.heap.size w w1:=(((Below.refl _ _).alloc (Nat.le_refl _) _).alloc (by simp) _).trans (hb.mono (by simp;omega))
  refine bodyPost_ret (v:=.tuple #[.int .u32 (mulH a b),.int .u32 (mulL a b),.agg #[.bool (mulC a b),.bool fp,.bool fz,.bool fs,.bool (mulC a b),.bool fd]]) (by rw[hH.out,hL.out,hC.out];simp[results,Tryz.results93,go_sem,hc]) rfl ⟨rfl,?_⟩
  repeat' (first|(with_reducible exact hB)|(with_reducible refine Below.drew ?_)|(with_reducible refine Below.setCell ?_ ?_ _)|(with_reducible refine Below.alloc ?_ ?_ _)|(simp<;>omega))
theorem imulC_eq(a b:Int):imulC a b=!(imulP a b==wrap32 (imulP a b)):=by
 unfold imulC
 generalize imulP a b=P
 rw[Bool.eq_iff_iff]
 unfold wrap32
 simp
 omega
theorem imul_any(fc fp fz fs fo fd:Bool)(a b:Int)(_h0:0≤a)(_h1:a<4294967296)(_k0:0≤b)(_k1:b<4294967296)(w:World):
  Calls Tryz.prog 94 #[.agg #[.bool fc,.bool fp,.bool fz,.bool fs,.bool fo,.bool fd],.int .u32 a,.int .u32 b] w fun e w'=>
  e=.returned (.tuple #[.int .u32 (imulH a b),.int .u32 (imulL a b),.agg #[.bool (imulC a b),.bool fp,.bool fz,.bool fs,.bool (imulC a b),.bool fd]])∧Below w.heap.size w w':=by
 have a0:=wrap32_lo a
 have a1:=wrap32_hi a
 have b0:=wrap32_lo b
 have b1:=wrap32_hi b
 have p0:=imul_lo a b
 have p1:=imul_hi a b
 have hP:wrap32 a*wrap32 b=imulP a b:=rfl
 have hH:=Lib.hid (show imulH a b=imulP a b%18446744073709551616/4294967296 from rfl)
 have hL:=Lib.hid (show imulL a b=imulP a b%4294967296 from rfl)
 have hC:=Lib.hid (imulC_eq a b)
 generalize imulP a b=P at *
 go_enter Tryz.func94,Tryz.ntmps94
 go_wp2_with (first|(go_at_call 125;refine(msigned_any _ _).mono ?_;rintro e w' ⟨rfl,rfl⟩)|(go_at_call 123;refine(halves_w _ _).mono ?_;rintro e w' ⟨rfl,rfl⟩))
 go_region_with (first|(go_at_call 126;(with_reducible refine(fits_any _ _).mono ?_);rintro e w' ⟨rfl,rfl⟩)|(go_at_call 124;(with_reducible refine(told_any fc fp fz fs fo fd _ _).mono ?_);rintro e w1 ⟨rfl,hb'⟩;have hb:=below_undrew hb';clear hb';obtain⟨hc,hf⟩:=bcell hb;have hz:w.heap.size+1<w1.heap.size:=(by have:=hb.size;simp at this;omega);have hy:w.heap.size<w1.heap.size:=(by omega)))
 all_goals
  go_wp2
  have hB:Below w.heap.size w w1:=(((Below.refl _ _).alloc (Nat.le_refl _) _).alloc (by simp) _).trans (hb.mono (by simp;omega))
  refine bodyPost_ret (v:=.tuple #[.int .u32 (imulH a b),.int .u32 (imulL a b),.agg #[.bool (imulC a b),.bool fp,.bool fz,.bool fs,.bool (imulC a b),.bool fd]]) (by rw[hH.out,hL.out,hC.out];simp[results,Tryz.results94,go_sem,hc]) rfl ⟨rfl,?_⟩
  repeat' (first|(with_reducible exact hB)|(with_reducible refine Below.drew ?_)|(with_reducible refine Below.setCell ?_ ?_ _)|(with_reducible refine Below.alloc ?_ ?_ _)|(simp<;>omega))
theorem fits_iff(q:Int):(q==wrap32 q)=decide (-2147483648≤q∧q≤2147483647):=by
 rw[Bool.eq_iff_iff]
 unfold wrap32
 simp
 omega
theorem both_q'(h l d:Int)(l0:0≤l)(d0:0<d)(hd:¬h<d):((both h l/d)/4294967296 != 0)=true:=by
 have:4294967296≤both h l/d:=by
  rw[Int.le_ediv_iff_mul_le d0]
  unfold both
  have:=Int.mul_le_mul_of_nonneg_left (show d≤h by omega) (show(0:Int)≤4294967296 by decide)
  rw[Int.mul_comm h]
  omega
 generalize both h l/d=q at *
 simp
 omega
theorem div_any(h l d:Int)(h0:0≤h)(h1:h<4294967296)(l0:0≤l)(l1:l<4294967296)(k0:0≤d)(k1:d<4294967296)(w:World):
  Calls Tryz.prog 95 #[.int .u32 h,.int .u32 l,.int .u32 d] w fun e w'=>
  e=.returned (.tuple #[.int .u32 (divQ h l d),.int .u32 (divR h l d),.bool (divOk h d)])∧Below w.heap.size w w':=by
 by_cases dz:d=0
 ·have hQ:=Lib.hid (show divQ h l d=0 by unfold divQ;rw[if_neg (by omega)])
  have hR:=Lib.hid (show divR h l d=0 by unfold divR;rw[if_neg (by omega)])
  have hK:=Lib.hid (show divOk h d=false by unfold divOk;simp;omega)
  have dz':(d==0)=true:=by rw[beq_iff_eq];exact dz
  clear dz
  go_enter Tryz.func95,Tryz.ntmps95
  go_wp2
  refine bodyPost_ret (v:=.tuple #[.int .u32 (divQ h l d),.int .u32 (divR h l d),.bool (divOk h d)]) (by rw[hQ.out,hR.out,hK.out];simp[results,Tryz.results95,go_sem]) rfl ⟨rfl,Below.refl _ _⟩
 ·have dz':(d==0)=false:=by rw[beq_eq_false_iff_ne];exact dz
  have dp:0<d:=by omega
  have n0:0≤both h l:=by unfold both;omega
  have n1:both h l≤18446744073709551615:=by unfold both;omega
  have r0:0≤both h l%d:=Int.emod_nonneg _ (by omega)
  have r1:both h l%d<4294967296:=by have:=Int.emod_lt_of_pos (both h l) dp;omega
  have q0:0≤both h l/d:=Int.ediv_nonneg n0 (by omega)
  have q1:both h l/d≤18446744073709551615:=by have:=Int.ediv_le_self d n0;omega
  by_cases hd:h<d
  ·obtain⟨q2,q3⟩:=both_q h l d h0 l0 l1 hd
   have hQ:=Lib.hid (show divQ h l d=both h l/d by unfold divQ;rw[if_pos hd])
   have hR:=Lib.hid (show divR h l d=both h l%d by unfold divR;rw[if_pos hd])
   have hK:=Lib.hid (show divOk h d=true by unfold divOk;simp[hd])
   have ho:(both h l/d/4294967296 != 0)=false:=by
    generalize both h l/d=q at *
    simp
    omega
   generalize hN:both h l=N at *
   go_enter Tryz.func95,Tryz.ntmps95
   go_wp2_with (first|(go_at_call 127;refine(joined_any _ _ h0 h1 l0 l1 _).mono ?_;rintro e w' ⟨rfl,rfl⟩)|(go_at_call 123;refine(halves_any _ q0 q1 _).mono ?_;rintro e w' ⟨rfl,rfl⟩))
   go_region
   all_goals
    go_wp2_with (go_at_call 123;refine(halves_any _ q0 q1 _).mono ?_;rintro e w' ⟨rfl,rfl⟩)
    (try go_region)
    all_goals
     (try go_wp2)
     refine bodyPost_ret (v:=.tuple #[.int .u32 (divQ h l d),.int .u32 (divR h l d),.bool (divOk h d)]) (by rw[hQ.out,hR.out,hK.out];simp[results,Tryz.results95,go_sem]) rfl ⟨rfl,?_⟩
     repeat' (first|(with_reducible exact Below.refl _ _)|(with_reducible refine Below.drew ?_))
  ·have ho:=both_q' h l d l0 dp hd
   have hQ:=Lib.hid (show divQ h l d=0 by unfold divQ;rw[if_neg hd])
   have hR:=Lib.hid (show divR h l d=0 by unfold divR;rw[if_neg hd])
   have hK:=Lib.hid (show divOk h d=false by unfold divOk;simp;omega)
   generalize hN:both h l=N at *
   go_enter Tryz.func95,Tryz.ntmps95
   go_wp2_with (first|(go_at_call 127;refine(joined_any _ _ h0 h1 l0 l1 _).mono ?_;rintro e w' ⟨rfl,rfl⟩)|(go_at_call 123;refine(halves_any _ q0 q1 _).mono ?_;rintro e w' ⟨rfl,rfl⟩))
   go_region
   all_goals
    go_wp2_with (go_at_call 123;refine(halves_any _ q0 q1 _).mono ?_;rintro e w' ⟨rfl,rfl⟩)
    (try go_region)
    all_goals
     (try go_wp2)
     refine bodyPost_ret (v:=.tuple #[.int .u32 (divQ h l d),.int .u32 (divR h l d),.bool (divOk h d)]) (by rw[hQ.out,hR.out,hK.out];simp[results,Tryz.results95,go_sem]) rfl ⟨rfl,?_⟩
     repeat' (first|(with_reducible exact Below.refl _ _)|(with_reducible refine Below.drew ?_))
set_option maxHeartbeats 2000000
theorem idiv_any(h l b:Int)(h0:0≤h)(h1:h<4294967296)(l0:0≤l)(l1:l<4294967296)(k0:0≤b)(k1:b<4294967296)(w:World):
  Calls Tryz.prog 96 #[.int .u32 h,.int .u32 l,.int .u32 b] w fun e w'=>
  e=.returned (.tuple #[.int .u32 (idQ h l b),.int .u32 (idR h l b),.bool (idOk h l b)])∧Below w.heap.size w w':=by
 have n0:-9223372036854775808≤idN h l:=wrap64_lo _
 have n1:idN h l≤9223372036854775807:=wrap64_hi _
 have b0:=wrap32_lo b
 have b1:=wrap32_hi b
 have hN:wrap64 (both h l)=idN h l:=rfl
 have hK:=Lib.hid (show idOk h l b=decide (wrap32 b≠0∧-2147483648≤(idN h l).tdiv (wrap32 b)∧(idN h l).tdiv (wrap32 b)≤2147483647)from rfl)
 have hQ:=Lib.hid (show idQ h l b=if idOk h l b then(idN h l).tdiv (wrap32 b)%4294967296 else 0 from rfl)
 have hR:=Lib.hid (show idR h l b=if idOk h l b then(idN h l).tmod (wrap32 b)%4294967296 else 0 from rfl)
 obtain⟨D,hD⟩:∃D:Int,wrap32 b=D:=⟨_,rfl⟩
 have hbD:b=0↔D=0:=by
  rw[←hD];unfold wrap32;omega
 rw[hD]at b0 b1 hK hQ hR
 generalize idN h l=N at *
 by_cases dz:b=0
 ·have dz':(b==0)=true:=by rw[beq_iff_eq];exact dz
  have hK':=Lib.hid (show idOk h l b=false by rw[hK.out];simp[hbD.1 dz])
  clear dz hbD
  go_enter Tryz.func96,Tryz.ntmps96
  go_wp2
  refine bodyPost_ret (v:=.tuple #[.int .u32 (idQ h l b),.int .u32 (idR h l b),.bool (idOk h l b)]) (by rw[hQ.out,hR.out,hK'.out];simp[results,Tryz.results96,go_sem]) rfl ⟨rfl,Below.refl _ _⟩
 ·have dz':(b==0)=false:=by rw[beq_eq_false_iff_ne];exact dz
  have dD:D≠0:=fun e=>dz (hbD.2 e)
  have dD':(D==0)=false:=by rw[beq_eq_false_iff_ne];exact dD
  clear hbD dz
  have hS:∀w:World,Calls Tryz.prog 125 #[.int .u32 b] w fun e w'=>e=.returned (.int .i64 D)∧w=w':=by
   intro w;have h:=msigned_any b w;rw[hD]at h;exact h
  by_cases hx:N=-9223372036854775808∧D=-1
  ·obtain⟨rfl,rfl⟩:=hx
   have hK':=Lib.hid (show idOk h l b=false by rw[hK.out];decide)
   have hF:∀w:World,Calls Tryz.prog 126 #[.int .i64 (wrap64 9223372036854775808)] w fun e w'=>e=.returned (.bool false)∧w=w':=by
    intro w;have h:=fits_any (wrap64 9223372036854775808) w;rw[show(wrap64 9223372036854775808==wrap32 (wrap64 9223372036854775808))=false by unfold wrap64 wrap32;decide]at h;exact h
   go_enter Tryz.func96,Tryz.ntmps96
   go_wp2_with (first|(go_at_call 127;refine(joined_any _ _ h0 h1 l0 l1 _).mono ?_;rintro e w' ⟨rfl,rfl⟩)|(go_at_call 125;refine(hS _).mono ?_;rintro e w' ⟨rfl,rfl⟩))
   rw[hN]
   go_region_with (go_at_call 125;(with_reducible refine(hS _).mono ?_);rintro e w' ⟨rfl,rfl⟩)
   all_goals
    go_wp2_with (go_at_call 126;refine(hF _).mono ?_;rintro e w' ⟨rfl,rfl⟩)
    (try go_region)
    all_goals
     (try go_wp2)
     refine bodyPost_ret (v:=.tuple #[.int .u32 (idQ h l b),.int .u32 (idR h l b),.bool (idOk h l b)]) (by rw[hQ.out,hR.out,hK'.out];simp[results,Tryz.results96,go_sem]) rfl ⟨rfl,?_⟩
     repeat' (first|(with_reducible exact Below.refl _ _)|(with_reducible refine Below.drew ?_))
  ·obtain⟨t0,t1⟩:=tdiv_64 N D n0 n1 hx
   obtain⟨r0,r1⟩:=tmod_32 N D b0 b1 dD
   clear hx
   by_cases c:-2147483648≤N.tdiv D∧N.tdiv D≤2147483647
   ·have hK':=Lib.hid (show idOk h l b=true by rw[hK.out];simp;omega)
    have hF:∀w:World,Calls Tryz.prog 126 #[.int .i64 (N.tdiv D)] w fun e w'=>e=.returned (.bool true)∧w=w':=by
     intro w;have h:=fits_any (N.tdiv D) w;rw[fits_iff,decide_eq_true c]at h;exact h
    clear c
    go_enter Tryz.func96,Tryz.ntmps96
    go_wp2_with (first|(go_at_call 127;refine(joined_any _ _ h0 h1 l0 l1 _).mono ?_;rintro e w' ⟨rfl,rfl⟩)|(go_at_call 125;refine(hS _).mono ?_;rintro e w' ⟨rfl,rfl⟩))
    rw[hN]
    go_region_with (go_at_call 125;(with_reducible refine(hS _).mono ?_);rintro e w' ⟨rfl,rfl⟩)
    all_goals
     go_wp2_with (go_at_call 126;refine(hF _).mono ?_;rintro e w' ⟨rfl,rfl⟩)
     (try go_region)
     all_goals
      (try go_wp2)
      refine bodyPost_ret (v:=.tuple #[.int .u32 (idQ h l b),.int .u32 (idR h l b),.bool (idOk h l b)]) (by rw[hQ.out,hR.out,hK'.out];simp[results,Tryz.results96,go_sem]) rfl ⟨rfl,?_⟩
      repeat' (first|(with_reducible exact Below.refl _ _)|(with_reducible refine Below.drew ?_))
   ·have hK':=Lib.hid (show idOk h l b=false by rw[hK.out];simp;omega)
    have hF:∀w:World,Calls Tryz.prog 126 #[.int .i64 (N.tdiv D)] w fun e w'=>e=.returned (.bool false)∧w=w':=by
     intro w;have h:=fits_any (N.tdiv D) w;rw[fits_iff,decide_eq_false c]at h;exact h
    clear c
    go_enter Tryz.func96,Tryz.ntmps96
    go_wp2_with (first|(go_at_call 127;refine(joined_any _ _ h0 h1 l0 l1 _).mono ?_;rintro e w' ⟨rfl,rfl⟩)|(go_at_call 125;refine(hS _).mono ?_;rintro e w' ⟨rfl,rfl⟩))
    rw[hN]
    go_region_with (go_at_call 125;(with_reducible refine(hS _).mono ?_);rintro e w' ⟨rfl,rfl⟩)
    all_goals
     go_wp2_with (go_at_call 126;refine(hF _).mono ?_;rintro e w' ⟨rfl,rfl⟩)
     (try go_region)
     all_goals
      (try go_wp2)
      refine bodyPost_ret (v:=.tuple #[.int .u32 (idQ h l b),.int .u32 (idR h l b),.bool (idOk h l b)]) (by rw[hQ.out,hR.out,hK'.out];simp[results,Tryz.results96,go_sem]) rfl ⟨rfl,?_⟩
      repeat' (first|(with_reducible exact Below.refl _ _)|(with_reducible refine Below.drew ?_))
end
section
open Go
set_option maxRecDepth 100000
def MapI(w:World)(B:Nat)(l:List (Int×Value)):Prop:=∃es clock,w.heap[B]?=some (.map es clock)∧es.toList.map (fun e=>(e.key,e.val))=l.map (fun p=>(Value.int .i64 p.1,p.2))
def lkp(l:List (Int×Value))(k:Int):Option Value:=(l.find? (fun p=>k==p.1)).map (·.2)
theorem MapI.made(w:World):MapI (w.alloc (.map #[] 0)) w.heap.size []:=⟨#[],0,by show(w.heap.push _)[w.heap.size]?=_;simp,rfl⟩
theorem MapI.but{F:Nat→Prop}{w w':World}{B:Nat}{l:List (Int×Value)}(h:MapI w B l)(hb:But F w w')(hn:¬F B):MapI w' B l:=by
 obtain⟨es,c,h1,h2⟩:=h
 exact⟨es,c,(hb.block B (Array.getElem?_eq_some_iff.1 h1).1 hn).trans h1,h2⟩
theorem findNow_i(k:Int):∀(es:List MapEntry) (l:List (Int×Value)) (i:Nat),es.map (fun e=>(e.key,e.val))=l.map (fun p=>(Value.int .i64 p.1,p.2))→∃r,Instr.findNow (.int .i64) (.int .i64 k) es i=some r∧r.map (·.2)=lkp l k
 |[],[],i,_=>⟨none,rfl,rfl⟩
 |[],_ :: _,_,h=>by simp at h
 |_ :: _,[],_,h=>by simp at h
 |e :: es,p :: l,i,h=>by
  rw[List.map_cons,List.map_cons,List.cons.injEq,Prod.mk.injEq]at h
  obtain⟨⟨hk,hv⟩,ht⟩:=h
  obtain⟨r,h1,h2⟩:=findNow_i k es l (i+1) ht
  unfold Instr.findNow
  rw[hk]
  have hs:Instr.sameNow (.int .i64) (.int .i64 k) (.int .i64 p.1)=some (k==p.1):=by simp[Instr.sameNow]
  rw[hs]
  unfold lkp
  cases hb:(k==p.1)with
  |true=>
   refine⟨some (i,e.val),rfl,?_⟩
   rw[List.find?_cons]
   simp[hb,hv]
  |false=>
   refine⟨r,h1,?_⟩
   rw[List.find?_cons]
   simp only[hb]
   exact h2
section
variable {P:Program} {w:World} {B:Nat} {l:List (Int×Value)} {T kt et:TypeId}
theorem MapI.put(h:MapI w B l)(hm:P.underlying T=some (.map kt et))(hk:P.underlying kt=some (.int .i64))(k:Int)(v:Value)(hn:lkp l k=none):∃w',(Instr.mapUpdate T (.map (some B)) (.int .i64 k) v).run P w=.ok () w'∧MapI w' B (l++[(k,v)])∧But (·=B) w w':=by
 obtain⟨es,c,hb,he⟩:=h
 obtain⟨r,hf,hr⟩:=findNow_i k es.toList l 0 he
 rw[hn]at hr
 have hr:r=none:=by cases r with|none=>rfl|some x=>simp at hr
 subst hr
 have hc:(Instr.checkKey false 10000 kt (.int .i64 k)).run P w=.ok () w:=MapKept.run_checkKey (k:=.int .i64 k) hk (by simp[MapKept.IsKey]) false 9999
 refine⟨{ w with heap:=w.heap.setIfInBounds B (.map (es.push { key:=.int .i64 k,val:=v,born:=c }) (c+1)) },?_,?_,?_⟩
 ·simp[Instr.mapUpdate,run_underlying hm,MapKept.run_getObj_map hb,hc,MapKept.run_findKey hk hf,MapKept.run_setObj_map _ hb,Result.andThen]
 ·refine⟨_,_,by show(w.heap.setIfInBounds B _)[B]?=_;rw[Array.getElem?_setIfInBounds_self,if_pos (Array.getElem?_eq_some_iff.1 hb).1],?_⟩
  rw[Array.toList_push,List.map_append,List.map_append,he]
  rfl
 ·exact⟨rfl,rfl,rfl,by simp,fun j hj hne=>by
   show(w.heap.setIfInBounds B _)[j]?=_
   rw[Array.getElem?_setIfInBounds_ne (fun e=>hne e.symm)]⟩
theorem MapI.ask(h:MapI w B l)(hm:P.underlying T=some (.map kt et))(hk:P.underlying kt=some (.int .i64))(k:Int){z:Value}(hz:(zeroValue et).run P w=.ok z w)(ok:Bool):(Instr.lookup T (.map (some B)) (.int .i64 k) ok).run P w=.ok (if ok then .tuple #[(lkp l k).getD z,.bool (lkp l k).isSome]else(lkp l k).getD z) w:=by
 obtain⟨es,c,hb,he⟩:=h
 obtain⟨r,hf,hr⟩:=findNow_i k es.toList l 0 he
 have hc:(Instr.checkKey es.isEmpty 10000 kt (.int .i64 k)).run P w=.ok () w:=MapKept.run_checkKey (k:=.int .i64 k) hk (by simp[MapKept.IsKey]) _ 9999
 cases r with
 |none=>
  have hn:lkp l k=none:=hr.symm
  rw[hn]
  cases ok<;>simp[Instr.lookup,run_underlying hm,MapKept.run_getObj_map hb,hc,MapKept.run_findKey hk hf,hz,Result.andThen]
 |some x=>
  have hn:lkp l k=some x.2:=hr.symm
  rw[hn]
  cases ok<;>simp[Instr.lookup,run_underlying hm,MapKept.run_getObj_map hb,hc,MapKept.run_findKey hk hf,Result.andThen]
theorem wpList_insertI{ops:Array Oper}{rest:List Oper}{op:Oper}{a:Act}{Q:Exit→Act→World→Prop}(hgd:op.guard=none)(x y z:Operand)(ho:op.op=.insert T x y z)(k:Int)(v:Value)(hx:a.eval x=.map (some B))(hy:a.eval y=.int .i64 k)(hz:a.eval z=v)(h:MapI w B l)(hm:P.underlying T=some (.map kt et))(hk:P.underlying kt=some (.int .i64))(hn:lkp l k=none)
  (hK:∀w',MapI w' B (l++[(k,v)])→But (·=B) w w'→wpList P ops Q rest (a.put op.dst undef) w'):wpList P ops Q (op :: rest) a w:=
 wpList_plain hgd fun _ hh=>by
  obtain⟨w',hr,h1,h2⟩:=h.put hm hk k v hn
  unfold Oper.wp execOp
  rw[ho]
  simp only[Sem.run_bind,hx,hy,hz,hr,Result.andThen_ok,Sem.run_pure]
  exact hh _ _ (hK w' h1 h2)
end
end
section
open Go.ChangeShapes Go.WideShapes Go.ChangeAt Go.RowKit
set_option maxRecDepth 100000
theorem bt_low'(x:Int)(k:Nat)(h0:0≤x)(h1:x<4294967296):(bits .and .u32 (x/2^k) 1 != 0)=bt x k:=by
 have h2:0≤x/2^k:=Int.ediv_nonneg h0 (Int.le_of_lt (Int.pow_pos (by decide)))
 have h3:x/2^k≤x:=Int.ediv_le_self _ h0
 rw[and_one _ h2 (by omega)]
 unfold bt
 rw[Bool.eq_iff_iff]
 simp only[bne_iff_ne,ne_eq,decide_eq_true_eq]
 omega
theorem bit_any(v:Int)(k:Nat)(hk:k<32)(h0:0≤v)(h1:v<4294967296)(w:World):Calls Tryz.prog 99 #[.int .u32 v,.int .u32 k] w fun e w'=>e=.returned (.bool (bt v k))∧w=w':=by
 have hE:=Lib.hid (bt_low' v k h0 h1)
 go_enter Tryz.func99,Tryz.ntmps99
 go_wp2
 go_ret
 exact⟨by rw[←hE.out];rfl,rfl⟩
theorem bit_0(v:Int)(h0:0≤v)(h1:v<4294967296)(w:World):Calls Tryz.prog 99 #[.int .u32 v,.int .u32 0] w fun e w'=>e=.returned (.bool (bt v 0))∧w=w':=bit_any v 0 (by decide) h0 h1 w
theorem bit_30(v:Int)(h0:0≤v)(h1:v<4294967296)(w:World):Calls Tryz.prog 99 #[.int .u32 v,.int .u32 30] w fun e w'=>e=.returned (.bool (bt v 30))∧w=w':=bit_any v 30 (by decide) h0 h1 w
theorem bit_31(v:Int)(h0:0≤v)(h1:v<4294967296)(w:World):Calls Tryz.prog 99 #[.int .u32 v,.int .u32 31] w fun e w'=>e=.returned (.bool (bt v 31))∧w=w':=bit_any v 31 (by decide) h0 h1 w
theorem bit_dn(v:Int)(k:Nat)(h1k:1≤k)(hk:k<32)(h0:0≤v)(h1:v<4294967296)(w:World):Calls Tryz.prog 99 #[.int .u32 v,.int .u32 ((k:Int)-1)] w fun e w'=>e=.returned (.bool (bt v (k-1)))∧w=w':=by
 have h:=bit_any v (k-1) (by omega) h0 h1 w
 rw[show((k-1:Nat):Int)=(k:Int)-1 by omega]at h
 exact h
theorem bit_up(v:Int)(k:Nat)(h1k:1≤k)(hk:k<32)(h0:0≤v)(h1:v<4294967296)(w:World):Calls Tryz.prog 99 #[.int .u32 v,.int .u32 (32-(k:Int))] w fun e w'=>e=.returned (.bool (bt v (32-k)))∧w=w':=by
 have h:=bit_any v (32-k) (by omega) h0 h1 w
 rw[show((32-k:Nat):Int)=32-(k:Int)by omega]at h
 exact h
theorem turned_any(fc fp fz fs fo fd c o:Bool)(w:World):Calls Tryz.prog 98 #[.agg #[.bool fc,.bool fp,.bool fz,.bool fs,.bool fo,.bool fd],.bool c,.bool o] w fun e w'=>
  e=.returned (.agg #[.bool c,.bool fp,.bool fz,.bool fs,.bool o,.bool fd])∧Below w.heap.size w w':=by
 go_enter Tryz.func98,Tryz.ntmps98
 go_wp2
 refine bodyPost_ret (v:=.agg #[.bool c,.bool fp,.bool fz,.bool fs,.bool o,.bool fd]) (by simp[results,Tryz.results98,go_sem]) rfl ⟨rfl,?_⟩
 exact((Below.refl _ _).alloc (Nat.le_refl _) _).alloc (by simp) _
theorem logic4(v:Int)(w:World)(h0:0≤v)(h1:v<4294967296):Calls Tryz.prog 87 #[.int .u32 v,.int .i64 4] w fun e w'=>
  e=.returned (.tuple #[.int .u32 v,.agg #[.bool false,.bool (par v),.bool (zer v),.bool (bt v 31),.bool false,.bool false]])∧Below w.heap.size w w':=by
 have h:=logic_any v 4 w
 rw[show cut v 4=v from Int.emod_eq_of_lt h0 h1]at h
 exact h
attribute [local go_sem] isSome_setCell
theorem moved_any(fc fp fz fs fo fd c o:Bool)(r:Int)(h0:0≤r)(h1:r<4294967296)(w:World):Calls Tryz.prog 100 #[.agg #[.bool fc,.bool fp,.bool fz,.bool fs,.bool fo,.bool fd],.int .u32 r,.bool c,.bool o] w fun e w'=>
  e=.returned (.agg #[.bool c,.bool (par r),.bool (zer r),.bool (bt r 31),.bool o,.bool fd])∧Below w.heap.size w w':=by
 go_enter Tryz.func100,Tryz.ntmps100
 go_wp2_with (go_at_call 87;refine(logic4 _ _ h0 h1).mono ?_;rintro e w1 ⟨rfl,hb⟩;obtain⟨hc,hf⟩:=bcell hb;have hz:w.heap.size+1<w1.heap.size:=(by have:=hb.size;simp at this;omega);have hy:w.heap.size<w1.heap.size:=(by omega);have hy1:w.heap.size<w1.heap.size+1:=(by omega);have hy2:w.heap.size+1<w1.heap.size+1:=(by omega))
 go_region
 all_goals go_wp2
 all_goals
  have hB:Below w.heap.size w w1:=(((Below.refl _ _).alloc (Nat.le_refl _) _).alloc (by simp) _).trans (hb.mono (by simp;omega))
  refine bodyPost_ret (v:=.agg #[.bool c,.bool (par r),.bool (zer r),.bool (bt r 31),.bool o,.bool fd]) (by simp[results,Tryz.results100,go_sem,hc,hz]) rfl ⟨rfl,?_⟩
  repeat' (first|(with_reducible exact hB)|(with_reducible refine Below.drew ?_)|(with_reducible refine Below.setCell ?_ ?_ _)|(with_reducible refine Below.alloc ?_ ?_ _)|(simp<;>omega))
theorem do_none(op:Int)(fc fp fz fs fo fd:Bool)(v n:Int)(hn:bits .and .u32 n 31=0)(w:World):
  Calls Tryz.prog 73 #[.int .i64 op,.agg #[.bool fc,.bool fp,.bool fz,.bool fs,.bool fo,.bool fd],.int .u32 v,.int .u32 n] w fun e w'=>
  e=.returned (.tuple #[.int .u32 v,.agg #[.bool fc,.bool fp,.bool fz,.bool fs,.bool fo,.bool fd]])∧Below w.heap.size w w':=by
 go_enter Tryz.func73,Tryz.ntmps73
 go_wp2
 go_region
 all_goals
  go_wp2
  refine bodyPost_ret (v:=.tuple #[.int .u32 v,.agg #[.bool fc,.bool fp,.bool fz,.bool fs,.bool fo,.bool fd]]) (by simp[results,Tryz.results73,go_sem]) rfl ⟨rfl,?_⟩
  repeat' (first|(with_reducible exact Below.refl _ _)|(with_reducible refine Below.drew ?_)|(with_reducible refine Below.setCell ?_ ?_ _)|(with_reducible refine Below.alloc ?_ ?_ _)|(simp<;>omega))
end
section
open Go.ChangeShapes Go.WideShapes Go.ChangeAt Go.RowKit
attribute [local go_sem] isSome_setCell
set_option maxRecDepth 100000
set_option maxHeartbeats 4000000
theorem do_rol(fc fp fz fs fo fd:Bool)(v n:Int)(k:Nat)(h0:0≤v)(h1:v<4294967296)(hk1:1≤k)(hk:k<32)(hn:bits .and .u32 n 31=(k:Int))(w:World):
  Calls Tryz.prog 73 #[.int .i64 26,.agg #[.bool fc,.bool fp,.bool fz,.bool fs,.bool fo,.bool fd],.int .u32 v,.int .u32 n] w fun e w'=>
  e=.returned (.tuple #[.int .u32 (rolV v k),.agg #[.bool (bt (rolV v k) 0),.bool (fp),.bool (fz),.bool (fs),.bool (!(bt (rolV v k) 31==bt (rolV v k) 0)),.bool fd]])∧Below w.heap.size w w':=by
 have hk0:((k:Int)==0)=false:=by rw[beq_eq_false_iff_ne];omega
 have hE:=Lib.hid (rol_is v k hk1 hk h0 h1)
 have r0:=rol_lo v k h0
 have r1:=rol_hi v k hk h0 h1
 have hkk:(32-(k:Int))%4294967296=((32-k:Nat):Int):=by omega
 go_enter Tryz.func73,Tryz.ntmps73
 go_wp2
 rw[hE.out]
 go_region_with (first|(go_at_call 99;first|((with_reducible refine(bit_0 (rolV v k) r0 r1 _).mono ?_);rintro e w' ⟨rfl,rfl⟩)|((with_reducible refine(bit_31 (rolV v k) r0 r1 _).mono ?_);rintro e w' ⟨rfl,rfl⟩))|(go_at_call 98;(with_reducible refine(turned_any fc fp fz fs fo fd _ _ _).mono ?_);rintro e w1 ⟨rfl,hb'⟩;have hb:=below_undrew hb';clear hb';obtain⟨hc,hf⟩:=bcell hb;have hz:w.heap.size+1<w1.heap.size:=(by have:=hb.size;simp at this;omega);have hy:w.heap.size<w1.heap.size:=(by omega)))
 all_goals
  go_wp2
  have hB:Below w.heap.size w w1:=(((Below.refl _ _).alloc (Nat.le_refl _) _).alloc (by simp) _).trans (hb.mono (by simp;omega))
  refine bodyPost_ret (v:=.tuple #[.int .u32 (rolV v k),.agg #[.bool (bt (rolV v k) 0),.bool (fp),.bool (fz),.bool (fs),.bool (!(bt (rolV v k) 31==bt (rolV v k) 0)),.bool fd]]) (by simp[results,Tryz.results73,go_sem,hc]) rfl ⟨rfl,?_⟩
  repeat' (first|(with_reducible exact hB)|(with_reducible refine Below.drew ?_)|(with_reducible refine Below.setCell ?_ ?_ _)|(with_reducible refine Below.alloc ?_ ?_ _)|(simp<;>omega))
end
section
open Go.ChangeShapes Go.WideShapes Go.ChangeAt Go.RowKit
attribute [local go_sem] isSome_setCell
set_option maxRecDepth 100000
set_option maxHeartbeats 4000000
theorem do_ror(fc fp fz fs fo fd:Bool)(v n:Int)(k:Nat)(h0:0≤v)(h1:v<4294967296)(hk1:1≤k)(hk:k<32)(hn:bits .and .u32 n 31=(k:Int))(w:World):
  Calls Tryz.prog 73 #[.int .i64 27,.agg #[.bool fc,.bool fp,.bool fz,.bool fs,.bool fo,.bool fd],.int .u32 v,.int .u32 n] w fun e w'=>
  e=.returned (.tuple #[.int .u32 (rorV v k),.agg #[.bool (bt (rorV v k) 31),.bool (fp),.bool (fz),.bool (fs),.bool (!(bt (rorV v k) 31==bt (rorV v k) 30)),.bool fd]])∧Below w.heap.size w w':=by
 have hk0:((k:Int)==0)=false:=by rw[beq_eq_false_iff_ne];omega
 have hE:=Lib.hid (ror_is v k hk1 hk h0 h1)
 have r0:=ror_lo v k h0
 have r1:=ror_hi v k hk h0 h1
 have hkk:(32-(k:Int))%4294967296=((32-k:Nat):Int):=by omega
 go_enter Tryz.func73,Tryz.ntmps73
 go_wp2
 rw[hE.out]
 go_region_with (first|(go_at_call 99;first|((with_reducible refine(bit_30 (rorV v k) r0 r1 _).mono ?_);rintro e w' ⟨rfl,rfl⟩)|((with_reducible refine(bit_31 (rorV v k) r0 r1 _).mono ?_);rintro e w' ⟨rfl,rfl⟩))|(go_at_call 98;(with_reducible refine(turned_any fc fp fz fs fo fd _ _ _).mono ?_);rintro e w1 ⟨rfl,hb'⟩;have hb:=below_undrew hb';clear hb';obtain⟨hc,hf⟩:=bcell hb;have hz:w.heap.size+1<w1.heap.size:=(by have:=hb.size;simp at this;omega);have hy:w.heap.size<w1.heap.size:=(by omega)))
 all_goals
  go_wp2
  have hB:Below w.heap.size w w1:=(((Below.refl _ _).alloc (Nat.le_refl _) _).alloc (by simp) _).trans (hb.mono (by simp;omega))
  refine bodyPost_ret (v:=.tuple #[.int .u32 (rorV v k),.agg #[.bool (bt (rorV v k) 31),.bool (fp),.bool (fz),.bool (fs),.bool (!(bt (rorV v k) 31==bt (rorV v k) 30)),.bool fd]]) (by simp[results,Tryz.results73,go_sem,hc]) rfl ⟨rfl,?_⟩
  repeat' (first|(with_reducible exact hB)|(with_reducible refine Below.drew ?_)|(with_reducible refine Below.setCell ?_ ?_ _)|(with_reducible refine Below.alloc ?_ ?_ _)|(simp<;>omega))
end
section
open Go.ChangeShapes Go.WideShapes Go.ChangeAt Go.RowKit
attribute [local go_sem] isSome_setCell
set_option maxRecDepth 100000
set_option maxHeartbeats 4000000
theorem do_shl(fc fp fz fs fo fd:Bool)(v n:Int)(k:Nat)(h0:0≤v)(h1:v<4294967296)(hk1:1≤k)(hk:k<32)(hn:bits .and .u32 n 31=(k:Int))(w:World):
  Calls Tryz.prog 73 #[.int .i64 28,.agg #[.bool fc,.bool fp,.bool fz,.bool fs,.bool fo,.bool fd],.int .u32 v,.int .u32 n] w fun e w'=>
  e=.returned (.tuple #[.int .u32 (shlV v k),.agg #[.bool (bt v (32-k)),.bool (par (shlV v k)),.bool (zer (shlV v k)),.bool (bt (shlV v k) 31),.bool (!(bt (shlV v k) 31==bt v (32-k))),.bool fd]])∧Below w.heap.size w w':=by
 have hk0:((k:Int)==0)=false:=by rw[beq_eq_false_iff_ne];omega
 have hE:=Lib.hid (show v*2^k%4294967296=shlV v k from rfl)
 have r0:=shl_lo v k
 have r1:=shl_hi v k
 have hkk:(32-(k:Int))%4294967296=((32-k:Nat):Int):=by omega
 go_enter Tryz.func73,Tryz.ntmps73
 go_wp2_with (go_at_call 99;(with_reducible refine(bit_up v k hk1 hk h0 h1 _).mono ?_);rintro e w' ⟨rfl,rfl⟩)
 rw[hE.out]
 go_region_with (first|(go_at_call 99;first|((with_reducible refine(bit_31 (shlV v k) r0 r1 _).mono ?_);rintro e w' ⟨rfl,rfl⟩))|(go_at_call 100;(with_reducible refine(moved_any fc fp fz fs fo fd _ _ (shlV v k) r0 r1 _).mono ?_);rintro e w1 ⟨rfl,hb'⟩;have hb:=below_undrew hb';clear hb';obtain⟨hc,hf⟩:=bcell hb;have hz:w.heap.size+1<w1.heap.size:=(by have:=hb.size;simp at this;omega);have hy:w.heap.size<w1.heap.size:=(by omega)))
 all_goals
  go_wp2
  have hB:Below w.heap.size w w1:=(((Below.refl _ _).alloc (Nat.le_refl _) _).alloc (by simp) _).trans (hb.mono (by simp;omega))
  refine bodyPost_ret (v:=.tuple #[.int .u32 (shlV v k),.agg #[.bool (bt v (32-k)),.bool (par (shlV v k)),.bool (zer (shlV v k)),.bool (bt (shlV v k) 31),.bool (!(bt (shlV v k) 31==bt v (32-k))),.bool fd]]) (by simp[results,Tryz.results73,go_sem,hc]) rfl ⟨rfl,?_⟩
  repeat' (first|(with_reducible exact hB)|(with_reducible refine Below.drew ?_)|(with_reducible refine Below.setCell ?_ ?_ _)|(with_reducible refine Below.alloc ?_ ?_ _)|(simp<;>omega))
end
section
open Go.ChangeShapes Go.WideShapes Go.ChangeAt Go.RowKit
attribute [local go_sem] isSome_setCell
set_option maxRecDepth 100000
set_option maxHeartbeats 4000000
theorem do_shr(fc fp fz fs fo fd:Bool)(v n:Int)(k:Nat)(h0:0≤v)(h1:v<4294967296)(hk1:1≤k)(hk:k<32)(hn:bits .and .u32 n 31=(k:Int))(w:World):
  Calls Tryz.prog 73 #[.int .i64 29,.agg #[.bool fc,.bool fp,.bool fz,.bool fs,.bool fo,.bool fd],.int .u32 v,.int .u32 n] w fun e w'=>
  e=.returned (.tuple #[.int .u32 (shrV v k),.agg #[.bool (bt v (k-1)),.bool (par (shrV v k)),.bool (zer (shrV v k)),.bool (bt (shrV v k) 31),.bool (bt v 31),.bool fd]])∧Below w.heap.size w w':=by
 have hk0:((k:Int)==0)=false:=by rw[beq_eq_false_iff_ne];omega
 have hE:=Lib.hid (show v/2^k=shrV v k from rfl)
 have r0:=shr_lo v k h0
 have r1:=shr_hi v k h0 h1
 have hkm:IntKind.u32.wrap ((k:Int)-1)=(k:Int)-1:=by rw[IntKind.wrap_u32];omega
 go_enter Tryz.func73,Tryz.ntmps73
 go_wp2
 rw[hE.out]
 go_region_with (first|(go_at_call 99;first|((with_reducible refine(bit_dn v k hk1 hk h0 h1 _).mono ?_);rintro e w' ⟨rfl,rfl⟩)|((with_reducible refine(bit_31 v h0 h1 _).mono ?_);rintro e w' ⟨rfl,rfl⟩))|(go_at_call 100;(with_reducible refine(moved_any fc fp fz fs fo fd _ _ (shrV v k) r0 r1 _).mono ?_);rintro e w1 ⟨rfl,hb'⟩;have hb:=below_undrew hb';clear hb';obtain⟨hc,hf⟩:=bcell hb;have hz:w.heap.size+1<w1.heap.size:=(by have:=hb.size;simp at this;omega);have hy:w.heap.size<w1.heap.size:=(by omega)))
 all_goals
  go_wp2
  have hB:Below w.heap.size w w1:=(((Below.refl _ _).alloc (Nat.le_refl _) _).alloc (by simp) _).trans (hb.mono (by simp;omega))
  refine bodyPost_ret (v:=.tuple #[.int .u32 (shrV v k),.agg #[.bool (bt v (k-1)),.bool (par (shrV v k)),.bool (zer (shrV v k)),.bool (bt (shrV v k) 31),.bool (bt v 31),.bool fd]]) (by simp[results,Tryz.results73,go_sem,hc]) rfl ⟨rfl,?_⟩
  repeat' (first|(with_reducible exact hB)|(with_reducible refine Below.drew ?_)|(with_reducible refine Below.setCell ?_ ?_ _)|(with_reducible refine Below.alloc ?_ ?_ _)|(simp<;>omega))
theorem do_sar(fc fp fz fs fo fd:Bool)(v n:Int)(k:Nat)(h0:0≤v)(h1:v<4294967296)(hk1:1≤k)(hk:k<32)(hn:bits .and .u32 n 31=(k:Int))(w:World):
  Calls Tryz.prog 73 #[.int .i64 30,.agg #[.bool fc,.bool fp,.bool fz,.bool fs,.bool fo,.bool fd],.int .u32 v,.int .u32 n] w fun e w'=>
  e=.returned (.tuple #[.int .u32 (sarV v k),.agg #[.bool (bt v (k-1)),.bool (par (sarV v k)),.bool (zer (sarV v k)),.bool (bt (sarV v k) 31),.bool (false),.bool fd]])∧Below w.heap.size w w':=by
 have hk0:((k:Int)==0)=false:=by rw[beq_eq_false_iff_ne];omega
 have hE:=Lib.hid (show wrap32 v/2^k%4294967296=sarV v k from rfl)
 have r0:=sar_lo v k
 have r1:=sar_hi v k
 have hkm:IntKind.u32.wrap ((k:Int)-1)=(k:Int)-1:=by rw[IntKind.wrap_u32];omega
 go_enter Tryz.func73,Tryz.ntmps73
 go_wp2
 rw[hE.out]
 go_region_with (first|(go_at_call 99;first|((with_reducible refine(bit_dn v k hk1 hk h0 h1 _).mono ?_);rintro e w' ⟨rfl,rfl⟩))|(go_at_call 100;(with_reducible refine(moved_any fc fp fz fs fo fd _ _ (sarV v k) r0 r1 _).mono ?_);rintro e w1 ⟨rfl,hb'⟩;have hb:=below_undrew hb';clear hb';obtain⟨hc,hf⟩:=bcell hb;have hz:w.heap.size+1<w1.heap.size:=(by have:=hb.size;simp at this;omega);have hy:w.heap.size<w1.heap.size:=(by omega)))
 all_goals
  go_wp2
  have hB:Below w.heap.size w w1:=(((Below.refl _ _).alloc (Nat.le_refl _) _).alloc (by simp) _).trans (hb.mono (by simp;omega))
  refine bodyPost_ret (v:=.tuple #[.int .u32 (sarV v k),.agg #[.bool (bt v (k-1)),.bool (par (sarV v k)),.bool (zer (sarV v k)),.bool (bt (sarV v k) 31),.bool (false),.bool fd]]) (by simp[results,Tryz.results73,go_sem,hc]) rfl ⟨rfl,?_⟩
  repeat' (first|(with_reducible exact hB)|(with_reducible refine Below.drew ?_)|(with_reducible refine Below.setCell ?_ ?_ _)|(with_reducible refine Below.alloc ?_ ?_ _)|(simp<;>omega))
end
section
open Go.ChangeShapes Go.WideShapes Go.ChangeAt Go.RowKit
set_option maxRecDepth 100000
theorem do_odd(op:Int)(fc fp fz fs fo fd:Bool)(v n:Int)(k:Nat)(hk1:1≤k)(hn:bits .and .u32 n 31=(k:Int))(e1:(op==26)=false)(e2:(op==27)=false)(e3:(op==28)=false)(e4:(op==29)=false)(e5:(op==30)=false)(w:World):
  Calls Tryz.prog 73 #[.int .i64 op,.agg #[.bool fc,.bool fp,.bool fz,.bool fs,.bool fo,.bool fd],.int .u32 v,.int .u32 n] w fun e w'=>
  e=.returned (.tuple #[.int .u32 v,.agg #[.bool fc,.bool fp,.bool fz,.bool fs,.bool fo,.bool fd]])∧Below w.heap.size w w':=by
 have hk0:((k:Int)==0)=false:=by rw[beq_eq_false_iff_ne];omega
 go_enter Tryz.func73,Tryz.ntmps73
 go_wp2
 go_region
 all_goals
  go_wp2
  refine bodyPost_ret (v:=.tuple #[.int .u32 v,.agg #[.bool fc,.bool fp,.bool fz,.bool fs,.bool fo,.bool fd]]) (by simp[results,Tryz.results73,go_sem]) rfl ⟨rfl,?_⟩
  repeat' (first|(with_reducible exact Below.refl _ _)|(with_reducible refine Below.drew ?_)|(with_reducible refine Below.setCell ?_ ?_ _)|(with_reducible refine Below.alloc ?_ ?_ _)|(simp<;>omega))
theorem do_any(op:Int)(fc fp fz fs fo fd:Bool)(v n:Int)(h0:0≤v)(h1:v<4294967296)(k0:0≤n)(k1:n<4294967296)(w:World):
  Calls Tryz.prog 73 #[.int .i64 op,.agg #[.bool fc,.bool fp,.bool fz,.bool fs,.bool fo,.bool fd],.int .u32 v,.int .u32 n] w fun e w'=>
  e=.returned (.tuple #[.int .u32 (shV op v (n%32).toNat),.agg #[.bool (sfC op v (n%32).toNat fc),.bool (sfP op v (n%32).toNat fp),.bool (sfZ op v (n%32).toNat fz),.bool (sfS op v (n%32).toNat fs),.bool (sfO op v (n%32).toNat fo),.bool fd]])∧Below w.heap.size w w':=by
 obtain⟨k,hk⟩:∃k:Nat,(n%32).toNat=k:=⟨_,rfl⟩
 have hk32:k<32:=by omega
 have hn:bits .and .u32 n 31=(k:Int):=by rw[bits31 n k0 k1];omega
 rw[hk]
 rcases shift_ways op k with hx|⟨hx,h1k,ho⟩
 ·have e:shV op v k=v∧sfC op v k fc=fc∧sfP op v k fp=fp∧sfZ op v k fz=fz∧sfS op v k fs=fs∧sfO op v k fo=fo:=by
   simp[shV,sfC,sfP,sfZ,sfS,sfO,hx]
  rw[e.1,e.2.1,e.2.2.1,e.2.2.2.1,e.2.2.2.2.1,e.2.2.2.2.2]
  rcases Nat.eq_zero_or_pos k with hk0|hk0
  ·subst hk0
   exact do_none op fc fp fz fs fo fd v n hn w
  ·rcases kept_ways op k hx with rfl|⟨e1,e2,e3,e4,e5⟩
   ·omega
   ·exact do_odd op fc fp fz fs fo fd v n k hk0 hn e1 e2 e3 e4 e5 w
 ·obtain⟨j,rfl⟩:∃j:Nat,k=j+1:=⟨k-1,by omega⟩
  rcases ho with rfl|rfl|rfl|rfl|rfl
  ·have h:=do_rol fc fp fz fs fo fd v n (j+1) h0 h1 h1k hk32 hn w
   simpa[shV,sfC,sfP,sfZ,sfS,sfO,hx,rolC]using h
  ·have h:=do_ror fc fp fz fs fo fd v n (j+1) h0 h1 h1k hk32 hn w
   simpa[shV,sfC,sfP,sfZ,sfS,sfO,hx,rorC,bne]using h
  ·have h:=do_shl fc fp fz fs fo fd v n (j+1) h0 h1 h1k hk32 hn w
   rw[show 32-(j+1)=31-j by omega,←shl_out v j (by omega)]at h
   simpa[shV,sfC,sfP,sfZ,sfS,sfO,hx]using h
  ·have h:=do_shr fc fp fz fs fo fd v n (j+1) h0 h1 h1k hk32 hn w
   rw[show(j+1)-1=j by omega,←shr_out v j]at h
   simpa[shV,sfC,sfP,sfZ,sfS,sfO,hx]using h
  ·have h:=do_sar fc fp fz fs fo fd v n (j+1) h0 h1 h1k hk32 hn w
   rw[show(j+1)-1=j by omega,←sar_out v j (by omega)]at h
   simpa[shV,sfC,sfP,sfZ,sfS,sfO,hx]using h
end
section
open Go.ChangeShapes Go.WideShapes Go.ChangeAt Go.RowKit
set_option maxRecDepth 100000
set_option maxHeartbeats 4000000
theorem is15_walk(op:Int)(w:World):Calls Tryz.prog 15 #[.int .i64 op] w fun e w'=>e=.returned (.bool (isAluB op))∧Below w.heap.size w w':=by
 by_cases h:op=23∨op=24∨op=35∨op=36∨op=37∨op=38∨op=41∨op=42∨op=43∨op=44∨op=45∨op=50
 ·rcases h with rfl|rfl|rfl|rfl|rfl|rfl|rfl|rfl|rfl|rfl|rfl|rfl
  all_goals
   go_enter Tryz.func15,Tryz.ntmps15
   go_wp2
   go_ret
   exact⟨rfl,Below.refl _ _⟩
 ·simp only[not_or]at h
  obtain⟨h23,h24,h35,h36,h37,h38,h41,h42,h43,h44,h45,h50⟩:=h
  have e23:(op==23)=false:=by simpa using h23
  have e24:(op==24)=false:=by simpa using h24
  have e35:(op==35)=false:=by simpa using h35
  have e36:(op==36)=false:=by simpa using h36
  have e37:(op==37)=false:=by simpa using h37
  have e38:(op==38)=false:=by simpa using h38
  have e41:(op==41)=false:=by simpa using h41
  have e42:(op==42)=false:=by simpa using h42
  have e43:(op==43)=false:=by simpa using h43
  have e44:(op==44)=false:=by simpa using h44
  have e45:(op==45)=false:=by simpa using h45
  have e50:(op==50)=false:=by simpa using h50
  have HV:=Lib.hid (show isAluB op=decide (1≤op∧op≤30)by unfold isAluB;simp only[e23,e24,e35,e36,e37,e38,e41,e42,e43,e44,e45,e50];simp)
  clear h23 h24 h35 h36 h37 h38 h41 h42 h43 h44 h45 h50
  by_cases h1:1≤op
  ·have d1:decide (1≤op)=true:=by simpa using h1
   by_cases h2:op≤30
   ·have d2:decide (op≤30)=true:=by simpa using h2
    have HR:=Lib.hid (HV.out.trans (decide_eq_true ⟨h1,h2⟩))
    clear HV h1 h2
    go_enter Tryz.func15,Tryz.ntmps15
    go_wp2
    go_ret
    exact⟨by rw[HR.out];rfl,Below.refl _ _⟩
   ·have d2:decide (op≤30)=false:=by simpa using h2
    have HR:=Lib.hid (HV.out.trans (decide_eq_false (fun q=>h2 q.2)))
    clear HV h1 h2
    go_enter Tryz.func15,Tryz.ntmps15
    go_wp2
    go_ret
    exact⟨by rw[HR.out];rfl,Below.refl _ _⟩
  ·have d1:decide (1≤op)=false:=by simpa using h1
   have HR:=Lib.hid (HV.out.trans (decide_eq_false (fun q=>h1 q.1)))
   clear HV h1
   go_enter Tryz.func15,Tryz.ntmps15
   go_wp2
   go_ret
   exact⟨by rw[HR.out];rfl,Below.refl _ _⟩
end
end Go.Proofs.YtmdncgfheeijaaaGreat
