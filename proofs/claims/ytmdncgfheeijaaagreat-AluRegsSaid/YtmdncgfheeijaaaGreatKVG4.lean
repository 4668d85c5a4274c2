import Derived.Test.YtmdncgfheeijaaaGreatKVG3
namespace Go.Proofs.YtmdncgfheeijaaaGreat
section
open Go.ChangeShapes Go.WideShapes Go.ChangeAt Go.RowKit
set_option maxRecDepth 100000
theorem rlogic_add(a b n:Int)(c:Bool)(w:World):Calls Tryz.prog 109 #[.int .u32 ((cut a n+cut b n+↑c.toNat)%4294967296),.int .i64 n] w fun e w'=>
  e=.returned (.tuple #[.int .u32 (addV a b n c),.agg #[.bool false,.bool (par (addV a b n c)),.bool (zer (addV a b n c)),.bool (hi (addV a b n c) n),.bool false,.bool false]])∧Below w.heap.size w w':=by
 have h:=rlogic_any ((cut a n+cut b n+↑c.toNat)%4294967296) n w (by omega) (by omega)
 rw[cut_cut32]at h
 exact h
theorem rlogic_sub(a b n:Int)(c:Bool)(w:World):Calls Tryz.prog 109 #[.int .u32 ((cut a n-cut b n-↑c.toNat)%4294967296),.int .i64 n] w fun e w'=>
  e=.returned (.tuple #[.int .u32 (subV a b n c),.agg #[.bool false,.bool (par (subV a b n c)),.bool (zer (subV a b n c)),.bool (hi (subV a b n c) n),.bool false,.bool false]])∧Below w.heap.size w w':=by
 have h:=rlogic_any ((cut a n-cut b n-↑c.toNat)%4294967296) n w (by omega) (by omega)
 rw[cut_cut32]at h
 exact h
set_option maxHeartbeats 4000000
theorem radd_any(a b n:Int)(c:Bool)(w:World)(h0:0≤a)(h1:a<4294967296)(k0:0≤b)(k1:b<4294967296):Calls Tryz.prog 107 #[.int .u32 a,.int .u32 b,.int .i64 n,.bool c] w fun e w'=>
  e=.returned (.tuple #[.int .u32 (addV a b n c),.agg #[.bool (addC a b n c),.bool (par (addV a b n c)),.bool (zer (addV a b n c)),.bool (hi (addV a b n c) n),.bool (addO a b n c),.bool false]])∧Below w.heap.size w w':=by
 have a0:=cut_lo a n
 have a1:=cut_hi a n
 have b0:=cut_lo b n
 have b1:=cut_hi b n
 have c1:=toNat_hi c
 have y0:=byt_lo n
 have y1:=byt_hi n
 have t0:=tp_lo n
 have t1:=tp_hi n
 have hE:=tp_eq (cut a n) (cut b n) n b0 b1 a0 a1
 have hC:=Lib.hid (raddC_eq a b n c)
 cases hx:(hi (cut a n) n==hi (cut b n) n)
 ·have hO:=Lib.hid (addO_neg a b n c hx)
  rw[hx]at hE
  clear hx
  go_enter Tryz.func107,Tryz.ntmps107
  go_wp2_with (first|(go_at_call 103;first|((with_reducible refine(rcut_any a _ _ h0 h1).mono ?_);rintro e w' ⟨rfl,rfl⟩)|((with_reducible refine(rcut_any b _ _ k0 k1).mono ?_);rintro e w' ⟨rfl,rfl⟩))|(go_at_call 133;refine(r1one_any _ _).mono ?_;rintro e w' ⟨rfl,rfl⟩)|(go_at_call 130;refine(rbytes_any _ _).mono ?_;rintro e w' ⟨rfl,rfl⟩)|(go_at_call 104;refine(rtop_any _ _).mono ?_;rintro e w' ⟨rfl,rfl⟩) |
   (go_at_call 109;refine(rlogic_add _ _ _ _ _).mono ?_;rintro e w1 ⟨rfl,hb⟩;obtain⟨hc,hf⟩:=bcell hb;have hz:w.heap.size<w1.heap.size:=(by have:=hb.size;simp at this;omega)))
  go_region
  all_goals
   go_wp2
   refine bodyPost_ret (v:=.tuple #[.int .u32 (addV a b n c),.agg #[.bool (addC a b n c),.bool (par (addV a b n c)),.bool (zer (addV a b n c)),.bool (hi (addV a b n c) n),.bool (addO a b n c),.bool false]]) (by rw[←hC.out,hO.out];simp[results,Tryz.results107,go_sem,hc,hz]) rfl ⟨rfl,?_⟩
   have hB:Below w.heap.size w w1:=((Below.refl _ _).alloc (Nat.le_refl _) _).trans (hb.mono (by simp))
   repeat' (first|(with_reducible exact hB)|(with_reducible refine Below.drew ?_)|(with_reducible refine Below.setCell ?_ ?_ _)|(with_reducible refine Below.alloc ?_ ?_ _)|(simp<;>omega))
 ·have hO:=Lib.hid (raddO_pos' a b n c hx)
  rw[hx]at hE
  clear hx
  go_enter Tryz.func107,Tryz.ntmps107
  go_wp2_with (first|(go_at_call 103;first|((with_reducible refine(rcut_any a _ _ h0 h1).mono ?_);rintro e w' ⟨rfl,rfl⟩)|((with_reducible refine(rcut_any b _ _ k0 k1).mono ?_);rintro e w' ⟨rfl,rfl⟩))|(go_at_call 133;refine(r1one_any _ _).mono ?_;rintro e w' ⟨rfl,rfl⟩)|(go_at_call 130;refine(rbytes_any _ _).mono ?_;rintro e w' ⟨rfl,rfl⟩)|(go_at_call 104;refine(rtop_any _ _).mono ?_;rintro e w' ⟨rfl,rfl⟩) |
   (go_at_call 109;refine(rlogic_add _ _ _ _ _).mono ?_;rintro e w1 ⟨rfl,hb⟩;obtain⟨hc,hf⟩:=bcell hb;have hz:w.heap.size<w1.heap.size:=(by have:=hb.size;simp at this;omega)))
  go_region
  all_goals
   go_wp2
   refine bodyPost_ret (v:=.tuple #[.int .u32 (addV a b n c),.agg #[.bool (addC a b n c),.bool (par (addV a b n c)),.bool (zer (addV a b n c)),.bool (hi (addV a b n c) n),.bool (addO a b n c),.bool false]]) (by rw[←hC.out,←hO.out];simp[results,Tryz.results107,go_sem,hc,hz]) rfl ⟨rfl,?_⟩
   have hB:Below w.heap.size w w1:=((Below.refl _ _).alloc (Nat.le_refl _) _).trans (hb.mono (by simp))
   repeat' (first|(with_reducible exact hB)|(with_reducible refine Below.drew ?_)|(with_reducible refine Below.setCell ?_ ?_ _)|(with_reducible refine Below.alloc ?_ ?_ _)|(simp<;>omega))
theorem rsub_any(a b n:Int)(c:Bool)(w:World)(h0:0≤a)(h1:a<4294967296)(k0:0≤b)(k1:b<4294967296):Calls Tryz.prog 108 #[.int .u32 a,.int .u32 b,.int .i64 n,.bool c] w fun e w'=>
  e=.returned (.tuple #[.int .u32 (subV a b n c),.agg #[.bool (subC a b n c),.bool (par (subV a b n c)),.bool (zer (subV a b n c)),.bool (hi (subV a b n c) n),.bool (subO a b n c),.bool false]])∧Below w.heap.size w w':=by
 have a0:=cut_lo a n
 have a1:=cut_hi a n
 have b0:=cut_lo b n
 have b1:=cut_hi b n
 have c1:=toNat_hi c
 have t0:=tp_lo n
 have t1:=tp_hi n
 have hE:=tp_neq (cut a n) (cut b n) n b0 b1 a0 a1
 cases hx:(hi (cut a n) n != hi (cut b n) n)
 ·have hO:=Lib.hid (subO_neg a b n c hx)
  rw[hx]at hE
  clear hx
  go_enter Tryz.func108,Tryz.ntmps108
  go_wp2_with (first|(go_at_call 103;first|((with_reducible refine(rcut_any a _ _ h0 h1).mono ?_);rintro e w' ⟨rfl,rfl⟩)|((with_reducible refine(rcut_any b _ _ k0 k1).mono ?_);rintro e w' ⟨rfl,rfl⟩))|(go_at_call 133;refine(r1one_any _ _).mono ?_;rintro e w' ⟨rfl,rfl⟩)|(go_at_call 104;refine(rtop_any _ _).mono ?_;rintro e w' ⟨rfl,rfl⟩) |
   (go_at_call 109;refine(rlogic_sub _ _ _ _ _).mono ?_;rintro e w1 ⟨rfl,hb⟩;obtain⟨hc,hf⟩:=bcell hb;have hz:w.heap.size<w1.heap.size:=(by have:=hb.size;simp at this;omega)))
  go_region
  all_goals
   go_wp2
   refine bodyPost_ret (v:=.tuple #[.int .u32 (subV a b n c),.agg #[.bool (subC a b n c),.bool (par (subV a b n c)),.bool (zer (subV a b n c)),.bool (hi (subV a b n c) n),.bool (subO a b n c),.bool false]]) (by rw[hO.out];simp[results,Tryz.results108,go_sem,hc,hz,subC]) rfl ⟨rfl,?_⟩
   have hB:Below w.heap.size w w1:=((Below.refl _ _).alloc (Nat.le_refl _) _).trans (hb.mono (by simp))
   repeat' (first|(with_reducible exact hB)|(with_reducible refine Below.drew ?_)|(with_reducible refine Below.setCell ?_ ?_ _)|(with_reducible refine Below.alloc ?_ ?_ _)|(simp<;>omega))
 ·have hO:=Lib.hid (rsubO_pos a b n c hx)
  rw[hx]at hE
  clear hx
  go_enter Tryz.func108,Tryz.ntmps108
  go_wp2_with (first|(go_at_call 103;first|((with_reducible refine(rcut_any a _ _ h0 h1).mono ?_);rintro e w' ⟨rfl,rfl⟩)|((with_reducible refine(rcut_any b _ _ k0 k1).mono ?_);rintro e w' ⟨rfl,rfl⟩))|(go_at_call 133;refine(r1one_any _ _).mono ?_;rintro e w' ⟨rfl,rfl⟩)|(go_at_call 104;refine(rtop_any _ _).mono ?_;rintro e w' ⟨rfl,rfl⟩) |
   (go_at_call 109;refine(rlogic_sub _ _ _ _ _).mono ?_;rintro e w1 ⟨rfl,hb⟩;obtain⟨hc,hf⟩:=bcell hb;have hz:w.heap.size<w1.heap.size:=(by have:=hb.size;simp at this;omega)))
  go_region
  all_goals
   go_wp2
   refine bodyPost_ret (v:=.tuple #[.int .u32 (subV a b n c),.agg #[.bool (subC a b n c),.bool (par (subV a b n c)),.bool (zer (subV a b n c)),.bool (hi (subV a b n c) n),.bool (subO a b n c),.bool false]]) (by rw[←hO.out];simp[results,Tryz.results108,go_sem,hc,hz,subC]) rfl ⟨rfl,?_⟩
   have hB:Below w.heap.size w w1:=((Below.refl _ _).alloc (Nat.le_refl _) _).trans (hb.mono (by simp))
   repeat' (first|(with_reducible exact hB)|(with_reducible refine Below.drew ?_)|(with_reducible refine Below.setCell ?_ ?_ _)|(with_reducible refine Below.alloc ?_ ?_ _)|(simp<;>omega))
attribute [local go_sem] isSome_setCell
theorem rstep_pos(fc fp fz fs fo fd:Bool)(v n i:Int)(h0:0≤v)(h1:v<4294967296)(hi0:0<i)(w:World):Calls Tryz.prog 110 #[.agg #[.bool fc,.bool fp,.bool fz,.bool fs,.bool fo,.bool fd],.int .u32 v,.int .i64 n,.int .i64 i] w fun e w'=>
  e=.returned (.tuple #[.int .u32 (addV v 1 n false),.agg #[.bool fc,.bool (par (addV v 1 n false)),.bool (zer (addV v 1 n false)),.bool (hi (addV v 1 n false) n),.bool (addO v 1 n false),.bool fd]])∧Below w.heap.size w w':=by
 go_enter Tryz.func110,Tryz.ntmps110
 go_wp2_with (go_at_call 107;refine(radd_any _ _ _ _ _ h0 h1 (by decide) (by decide)).mono ?_;rintro e w1 ⟨rfl,hb⟩;obtain⟨hc,hf⟩:=bcell hb;have hz:w.heap.size+2<w1.heap.size:=(by have:=hb.size;simp at this;omega);have hy:w.heap.size<w1.heap.size:=(by omega);have hy1:w.heap.size+1<w1.heap.size:=(by omega))
 go_region
 all_goals go_wp2
 go_region
 all_goals go_wp2
 all_goals
  have hB:Below w.heap.size w w1:=((((Below.refl _ _).alloc (Nat.le_refl _) _).alloc (by simp) _).alloc (by simp;omega) _).trans (hb.mono (by simp;omega))
  refine bodyPost_ret (v:=.tuple #[.int .u32 (addV v 1 n false),.agg #[.bool fc,.bool (par (addV v 1 n false)),.bool (zer (addV v 1 n false)),.bool (hi (addV v 1 n false) n),.bool (addO v 1 n false),.bool fd]]) (by simp[results,Tryz.results110,go_sem,hc]) rfl ⟨rfl,?_⟩
  repeat' (first|(with_reducible exact hB)|(with_reducible refine Below.drew ?_)|(with_reducible refine Below.setCell ?_ ?_ _)|(with_reducible refine Below.alloc ?_ ?_ _)|(simp<;>omega))
theorem rstep_neg(fc fp fz fs fo fd:Bool)(v n i:Int)(h0:0≤v)(h1:v<4294967296)(hi0:i≤0)(w:World):Calls Tryz.prog 110 #[.agg #[.bool fc,.bool fp,.bool fz,.bool fs,.bool fo,.bool fd],.int .u32 v,.int .i64 n,.int .i64 i] w fun e w'=>
  e=.returned (.tuple #[.int .u32 (subV v 1 n false),.agg #[.bool fc,.bool (par (subV v 1 n false)),.bool (zer (subV v 1 n false)),.bool (hi (subV v 1 n false) n),.bool (subO v 1 n false),.bool fd]])∧Below w.heap.size w w':=by
 go_enter Tryz.func110,Tryz.ntmps110
 go_wp2_with (go_at_call 108;refine(rsub_any _ _ _ _ _ h0 h1 (by decide) (by decide)).mono ?_;rintro e w1 ⟨rfl,hb⟩;obtain⟨hc,hf⟩:=bcell hb;have hz:w.heap.size+2<w1.heap.size:=(by have:=hb.size;simp at this;omega);have hy:w.heap.size<w1.heap.size:=(by omega);have hy1:w.heap.size+1<w1.heap.size:=(by omega))
 go_region
 all_goals go_wp2
 go_region
 all_goals go_wp2
 all_goals
  have hB:Below w.heap.size w w1:=((((Below.refl _ _).alloc (Nat.le_refl _) _).alloc (by simp) _).alloc (by simp;omega) _).trans (hb.mono (by simp;omega))
  refine bodyPost_ret (v:=.tuple #[.int .u32 (subV v 1 n false),.agg #[.bool fc,.bool (par (subV v 1 n false)),.bool (zer (subV v 1 n false)),.bool (hi (subV v 1 n false) n),.bool (subO v 1 n false),.bool fd]]) (by simp[results,Tryz.results110,go_sem,hc]) rfl ⟨rfl,?_⟩
  repeat' (first|(with_reducible exact hB)|(with_reducible refine Below.drew ?_)|(with_reducible refine Below.setCell ?_ ?_ _)|(with_reducible refine Below.alloc ?_ ?_ _)|(simp<;>omega))
theorem rstep_any(fc fp fz fs fo fd:Bool)(v n i:Int)(h0:0≤v)(h1:v<4294967296)(w:World):Calls Tryz.prog 110 #[.agg #[.bool fc,.bool fp,.bool fz,.bool fs,.bool fo,.bool fd],.int .u32 v,.int .i64 n,.int .i64 i] w fun e w'=>
  e=.returned (.tuple #[.int .u32 (stepV v n i),.agg #[.bool fc,.bool (par (stepV v n i)),.bool (zer (stepV v n i)),.bool (hi (stepV v n i) n),.bool (stepO v n i),.bool fd]])∧Below w.heap.size w w':=by
 unfold stepV stepO
 by_cases h:0<i
 ·simp only[if_pos h]
  exact rstep_pos fc fp fz fs fo fd v n i h0 h1 h w
 ·simp only[if_neg h]
  exact rstep_neg fc fp fz fs fo fd v n i h0 h1 (by omega) w
end
section
open Go.RowKit
set_option maxRecDepth 100000
theorem below32{k:Nat}(h:k<32):k=0∨k=1∨k=2∨k=3∨k=4∨k=5∨k=6∨k=7∨k=8∨k=9∨k=10∨k=11∨k=12∨k=13∨k=14∨k=15∨k=16∨k=17∨k=18∨k=19∨k=20∨k=21∨k=22∨k=23∨k=24∨k=25∨k=26∨k=27∨k=28∨k=29∨k=30∨k=31:=by omega
def rolV(v:Int)(k:Nat):Int:=v%2^(32-k)*2^k+v/2^(32-k)
def rorV(v:Int)(k:Nat):Int:=v/2^k+v%2^k*2^(32-k)
def shlV(v:Int)(k:Nat):Int:=v*2^k%4294967296
def shrV(v:Int)(k:Nat):Int:=v/2^k
def sarV(v:Int)(k:Nat):Int:=wrap32 v/2^k%4294967296
theorem shl_low(v:Int)(k:Nat)(hk:k<32):v*2^k%4294967296=v%2^(32-k)*2^k:=by
 have e:(4294967296:Int)=2^(32-k)*2^k:=by
  rw[←Int.pow_add,show 32-k+k=32 by omega];rfl
 rw[e,Int.mul_comm v,Int.mul_comm (2^(32-k)),Int.mul_emod_mul_of_pos _ _ (Int.pow_pos (by decide)),Int.mul_comm]
theorem rol_lo(v:Int)(k:Nat)(h0:0≤v):0≤rolV v k:=by
 unfold rolV
 have h2:=Int.ediv_nonneg h0 (show(0:Int)≤2^(32-k)from Int.le_of_lt (Int.pow_pos (by decide)))
 have h3:0≤v%2^(32-k):=Int.emod_nonneg _ (Int.ne_of_gt (Int.pow_pos (by decide)))
 have h4:0≤v%2^(32-k)*2^k:=Int.mul_nonneg h3 (Int.le_of_lt (Int.pow_pos (by decide)))
 omega
theorem rol_hi(v:Int)(k:Nat)(hk:k<32)(h0:0≤v)(h1:v<4294967296):rolV v k<4294967296:=by
 unfold rolV
 rcases below32 hk with rfl|rfl|rfl|rfl|rfl|rfl|rfl|rfl|rfl|rfl|rfl|rfl|rfl|rfl|rfl|rfl|rfl|rfl|rfl|rfl|rfl|rfl|rfl|rfl|rfl|rfl|rfl|rfl|rfl|rfl|rfl|rfl<;>simp<;>omega
theorem ror_lo(v:Int)(k:Nat)(h0:0≤v):0≤rorV v k:=by
 unfold rorV
 have h2:=Int.ediv_nonneg h0 (show(0:Int)≤2^k from Int.le_of_lt (Int.pow_pos (by decide)))
 have h3:0≤v%2^k:=Int.emod_nonneg _ (Int.ne_of_gt (Int.pow_pos (by decide)))
 have h4:0≤v%2^k*2^(32-k):=Int.mul_nonneg h3 (Int.le_of_lt (Int.pow_pos (by decide)))
 omega
theorem ror_hi(v:Int)(k:Nat)(hk:k<32)(h0:0≤v)(h1:v<4294967296):rorV v k<4294967296:=by
 unfold rorV
 rcases below32 hk with rfl|rfl|rfl|rfl|rfl|rfl|rfl|rfl|rfl|rfl|rfl|rfl|rfl|rfl|rfl|rfl|rfl|rfl|rfl|rfl|rfl|rfl|rfl|rfl|rfl|rfl|rfl|rfl|rfl|rfl|rfl|rfl<;>simp<;>omega
theorem shl_lo(v:Int)(k:Nat):0≤shlV v k:=by unfold shlV;omega
theorem shl_hi(v:Int)(k:Nat):shlV v k<4294967296:=by unfold shlV;omega
theorem shr_lo(v:Int)(k:Nat)(h0:0≤v):0≤shrV v k:=Int.ediv_nonneg h0 (Int.le_of_lt (Int.pow_pos (by decide)))
theorem shr_hi(v:Int)(k:Nat)(h0:0≤v)(h1:v<4294967296):shrV v k<4294967296:=by
 have:shrV v k≤v:=Int.ediv_le_self _ h0
 omega
theorem sar_lo(v:Int)(k:Nat):0≤sarV v k:=by unfold sarV;omega
theorem sar_hi(v:Int)(k:Nat):sarV v k<4294967296:=by unfold sarV;omega
/-! one bit more -/
theorem shl_step(v:Int)(k:Nat):shlV v k*2%4294967296=shlV v (k+1):=by
 unfold shlV
 rw[Int.pow_succ,←Int.mul_assoc]
 generalize v*2^k=x
 omega
theorem shr_step(v:Int)(k:Nat):shrV v k/2=shrV v (k+1):=by
 unfold shrV
 rw[Int.pow_succ,Int.ediv_ediv_of_nonneg (Int.le_of_lt (Int.pow_pos (by decide)))]
theorem rol_step(v:Int)(k:Nat)(hk:k<31)(h0:0≤v)(h1:v<4294967296):rolV v k*2%4294967296+rolV v k/2147483648=rolV v (k+1):=by
 unfold rolV
 rcases below32 (k:=k) (by omega)with rfl|rfl|rfl|rfl|rfl|rfl|rfl|rfl|rfl|rfl|rfl|rfl|rfl|rfl|rfl|rfl|rfl|rfl|rfl|rfl|rfl|rfl|rfl|rfl|rfl|rfl|rfl|rfl|rfl|rfl|rfl|rfl
 ·have e1:v/4294967296=v/2147483648/2:=by omega
  have e2:v%4294967296=v/2147483648%2*2147483648+v%2147483648:=by omega
  have e3:0≤v%2147483648:=by omega
  have e4:v%2147483648<2147483648:=by omega
  have e5:0≤v/2147483648:=by omega
  have e6:v/2147483648<2:=by omega
  simp
  rw[e1,e2]
  generalize v%2147483648=r at *
  generalize v/2147483648=h at *
  clear e1 e2 h0 h1
  rcases(show h%2=0∨h%2=1 by omega)with t|t<;>rw[t]<;>omega
 ·have e1:v/2147483648=v/1073741824/2:=by omega
  have e2:v%2147483648=v/1073741824%2*1073741824+v%1073741824:=by omega
  have e3:0≤v%1073741824:=by omega
  have e4:v%1073741824<1073741824:=by omega
  have e5:0≤v/1073741824:=by omega
  have e6:v/1073741824<4:=by omega
  simp
  rw[e1,e2]
  generalize v%1073741824=r at *
  generalize v/1073741824=h at *
  clear e1 e2 h0 h1
  rcases(show h%2=0∨h%2=1 by omega)with t|t<;>rw[t]<;>omega
 ·have e1:v/1073741824=v/536870912/2:=by omega
  have e2:v%1073741824=v/536870912%2*536870912+v%536870912:=by omega
  have e3:0≤v%536870912:=by omega
  have e4:v%536870912<536870912:=by omega
  have e5:0≤v/536870912:=by omega
  have e6:v/536870912<8:=by omega
  simp
  rw[e1,e2]
  generalize v%536870912=r at *
  generalize v/536870912=h at *
  clear e1 e2 h0 h1
  rcases(show h%2=0∨h%2=1 by omega)with t|t<;>rw[t]<;>omega
 ·have e1:v/536870912=v/268435456/2:=by omega
  have e2:v%536870912=v/268435456%2*268435456+v%268435456:=by omega
  have e3:0≤v%268435456:=by omega
  have e4:v%268435456<268435456:=by omega
  have e5:0≤v/268435456:=by omega
  have e6:v/268435456<16:=by omega
  simp
  rw[e1,e2]
  generalize v%268435456=r at *
  generalize v/268435456=h at *
  clear e1 e2 h0 h1
  rcases(show h%2=0∨h%2=1 by omega)with t|t<;>rw[t]<;>omega
 ·have e1:v/268435456=v/134217728/2:=by omega
  have e2:v%268435456=v/134217728%2*134217728+v%134217728:=by omega
  have e3:0≤v%134217728:=by omega
  have e4:v%134217728<134217728:=by omega
  have e5:0≤v/134217728:=by omega
  have e6:v/134217728<32:=by omega
  simp
  rw[e1,e2]
  generalize v%134217728=r at *
  generalize v/134217728=h at *
  clear e1 e2 h0 h1
  rcases(show h%2=0∨h%2=1 by omega)with t|t<;>rw[t]<;>omega
 ·have e1:v/134217728=v/67108864/2:=by omega
  have e2:v%134217728=v/67108864%2*67108864+v%67108864:=by omega
  have e3:0≤v%67108864:=by omega
  have e4:v%67108864<67108864:=by omega
  have e5:0≤v/67108864:=by omega
  have e6:v/67108864<64:=by omega
  simp
  rw[e1,e2]
  generalize v%67108864=r at *
  generalize v/67108864=h at *
  clear e1 e2 h0 h1
  rcases(show h%2=0∨h%2=1 by omega)with t|t<;>rw[t]<;>omega
 ·have e1:v/67108864=v/33554432/2:=by omega
  have e2:v%67108864=v/33554432%2*33554432+v%33554432:=by omega
  have e3:0≤v%33554432:=by omega
  have e4:v%33554432<33554432:=by omega
  have e5:0≤v/33554432:=by omega
  have e6:v/33554432<128:=by omega
  simp
  rw[e1,e2]
  generalize v%33554432=r at *
  generalize v/33554432=h at *
  clear e1 e2 h0 h1
  rcases(show h%2=0∨h%2=1 by omega)with t|t<;>rw[t]<;>omega
 ·have e1:v/33554432=v/16777216/2:=by omega
  have e2:v%33554432=v/16777216%2*16777216+v%16777216:=by omega
  have e3:0≤v%16777216:=by omega
  have e4:v%16777216<16777216:=by omega
  have e5:0≤v/16777216:=by omega
  have e6:v/16777216<256:=by omega
  simp
  rw[e1,e2]
  generalize v%16777216=r at *
  generalize v/16777216=h at *
  clear e1 e2 h0 h1
  rcases(show h%2=0∨h%2=1 by omega)with t|t<;>rw[t]<;>omega
 ·have e1:v/16777216=v/8388608/2:=by omega
  have e2:v%16777216=v/8388608%2*8388608+v%8388608:=by omega
  have e3:0≤v%8388608:=by omega
  have e4:v%8388608<8388608:=by omega
  have e5:0≤v/8388608:=by omega
  have e6:v/8388608<512:=by omega
  simp
  rw[e1,e2]
  generalize v%8388608=r at *
  generalize v/8388608=h at *
  clear e1 e2 h0 h1
  rcases(show h%2=0∨h%2=1 by omega)with t|t<;>rw[t]<;>omega
 ·have e1:v/8388608=v/4194304/2:=by omega
  have e2:v%8388608=v/4194304%2*4194304+v%4194304:=by omega
  have e3:0≤v%4194304:=by omega
  have e4:v%4194304<4194304:=by omega
  have e5:0≤v/4194304:=by omega
  have e6:v/4194304<1024:=by omega
  simp
  rw[e1,e2]
  generalize v%4194304=r at *
  generalize v/4194304=h at *
  clear e1 e2 h0 h1
  rcases(show h%2=0∨h%2=1 by omega)with t|t<;>rw[t]<;>omega
 ·have e1:v/4194304=v/2097152/2:=by omega
  have e2:v%4194304=v/2097152%2*2097152+v%2097152:=by omega
  have e3:0≤v%2097152:=by omega
  have e4:v%2097152<2097152:=by omega
  have e5:0≤v/2097152:=by omega
  have e6:v/2097152<2048:=by omega
  simp
  rw[e1,e2]
  generalize v%2097152=r at *
  generalize v/2097152=h at *
  clear e1 e2 h0 h1
  rcases(show h%2=0∨h%2=1 by omega)with t|t<;>rw[t]<;>omega
 ·have e1:v/2097152=v/1048576/2:=by omega
  have e2:v%2097152=v/1048576%2*1048576+v%1048576:=by omega
  have e3:0≤v%1048576:=by omega
  have e4:v%1048576<1048576:=by omega
  have e5:0≤v/1048576:=by omega
  have e6:v/1048576<4096:=by omega
  simp
  rw[e1,e2]
  generalize v%1048576=r at *
  generalize v/1048576=h at *
  clear e1 e2 h0 h1
  rcases(show h%2=0∨h%2=1 by omega)with t|t<;>rw[t]<;>omega
 ·have e1:v/1048576=v/524288/2:=by omega
  have e2:v%1048576=v/524288%2*524288+v%524288:=by omega
  have e3:0≤v%524288:=by omega
  have e4:v%524288<524288:=by omega
  have e5:0≤v/524288:=by omega
  have e6:v/524288<8192:=by omega
  simp
  rw[e1,e2]
  generalize v%524288=r at *
  generalize v/524288=h at *
  clear e1 e2 h0 h1
  rcases(show h%2=0∨h%2=1 by omega)with t|t<;>rw[t]<;>omega
 ·have e1:v/524288=v/262144/2:=by omega
  have e2:v%524288=v/262144%2*262144+v%262144:=by omega
  have e3:0≤v%262144:=by omega
  have e4:v%262144<262144:=by omega
  have e5:0≤v/262144:=by omega
  have e6:v/262144<16384:=by omega
  simp
  rw[e1,e2]
  generalize v%262144=r at *
  generalize v/262144=h at *
  clear e1 e2 h0 h1
  rcases(show h%2=0∨h%2=1 by omega)with t|t<;>rw[t]<;>omega
 ·have e1:v/262144=v/131072/2:=by omega
  have e2:v%262144=v/131072%2*131072+v%131072:=by omega
  have e3:0≤v%131072:=by omega
  have e4:v%131072<131072:=by omega
  have e5:0≤v/131072:=by omega
  have e6:v/131072<32768:=by omega
  simp
  rw[e1,e2]
  generalize v%131072=r at *
  generalize v/131072=h at *
  clear e1 e2 h0 h1
  rcases(show h%2=0∨h%2=1 by omega)with t|t<;>rw[t]<;>omega
 ·have e1:v/131072=v/65536/2:=by omega
  have e2:v%131072=v/65536%2*65536+v%65536:=by omega
  have e3:0≤v%65536:=by omega
  have e4:v%65536<65536:=by omega
  have e5:0≤v/65536:=by omega
  have e6:v/65536<65536:=by omega
  simp
  rw[e1,e2]
  generalize v%65536=r at *
  generalize v/65536=h at *
  clear e1 e2 h0 h1
  rcases(show h%2=0∨h%2=1 by omega)with t|t<;>rw[t]<;>omega
 ·have e1:v/65536=v/32768/2:=by omega
  have e2:v%65536=v/32768%2*32768+v%32768:=by omega
  have e3:0≤v%32768:=by omega
  have e4:v%32768<32768:=by omega
  have e5:0≤v/32768:=by omega
  have e6:v/32768<131072:=by omega
  simp
  rw[e1,e2]
  generalize v%32768=r at *
  generalize v/32768=h at *
  clear e1 e2 h0 h1
  rcases(show h%2=0∨h%2=1 by omega)with t|t<;>rw[t]<;>omega
 ·have e1:v/32768=v/16384/2:=by omega
  have e2:v%32768=v/16384%2*16384+v%16384:=by omega
  have e3:0≤v%16384:=by omega
  have e4:v%16384<16384:=by omega
  have e5:0≤v/16384:=by omega
  have e6:v/16384<262144:=by omega
  simp
  rw[e1,e2]
  generalize v%16384=r at *
  generalize v/16384=h at *
  clear e1 e2 h0 h1
  rcases(show h%2=0∨h%2=1 by omega)with t|t<;>rw[t]<;>omega
 ·have e1:v/16384=v/8192/2:=by omega
  have e2:v%16384=v/8192%2*8192+v%8192:=by omega
  have e3:0≤v%8192:=by omega
  have e4:v%8192<8192:=by omega
  have e5:0≤v/8192:=by omega
  have e6:v/8192<524288:=by omega
  simp
  rw[e1,e2]
  generalize v%8192=r at *
  generalize v/8192=h at *
  clear e1 e2 h0 h1
  rcases(show h%2=0∨h%2=1 by omega)with t|t<;>rw[t]<;>omega
 ·have e1:v/8192=v/4096/2:=by omega
  have e2:v%8192=v/4096%2*4096+v%4096:=by omega
  have e3:0≤v%4096:=by omega
  have e4:v%4096<4096:=by omega
  have e5:0≤v/4096:=by omega
  have e6:v/4096<1048576:=by omega
  simp
  rw[e1,e2]
  generalize v%4096=r at *
  generalize v/4096=h at *
  clear e1 e2 h0 h1
  rcases(show h%2=0∨h%2=1 by omega)with t|t<;>rw[t]<;>omega
 ·have e1:v/4096=v/2048/2:=by omega
  have e2:v%4096=v/2048%2*2048+v%2048:=by omega
  have e3:0≤v%2048:=by omega
  have e4:v%2048<2048:=by omega
  have e5:0≤v/2048:=by omega
  have e6:v/2048<2097152:=by omega
  simp
  rw[e1,e2]
  generalize v%2048=r at *
  generalize v/2048=h at *
  clear e1 e2 h0 h1
  rcases(show h%2=0∨h%2=1 by omega)with t|t<;>rw[t]<;>omega
 ·have e1:v/2048=v/1024/2:=by omega
  have e2:v%2048=v/1024%2*1024+v%1024:=by omega
  have e3:0≤v%1024:=by omega
  have e4:v%1024<1024:=by omega
  have e5:0≤v/1024:=by omega
  have e6:v/1024<4194304:=by omega
  simp
  rw[e1,e2]
  generalize v%1024=r at *
  generalize v/1024=h at *
  clear e1 e2 h0 h1
  rcases(show h%2=0∨h%2=1 by omega)with t|t<;>rw[t]<;>omega
 ·have e1:v/1024=v/512/2:=by omega
  have e2:v%1024=v/512%2*512+v%512:=by omega
  have e3:0≤v%512:=by omega
  have e4:v%512<512:=by omega
  have e5:0≤v/512:=by omega
  have e6:v/512<8388608:=by omega
  simp
  rw[e1,e2]
  generalize v%512=r at *
  generalize v/512=h at *
  clear e1 e2 h0 h1
  rcases(show h%2=0∨h%2=1 by omega)with t|t<;>rw[t]<;>omega
 ·have e1:v/512=v/256/2:=by omega
  have e2:v%512=v/256%2*256+v%256:=by omega
  have e3:0≤v%256:=by omega
  have e4:v%256<256:=by omega
  have e5:0≤v/256:=by omega
  have e6:v/256<16777216:=by omega
  simp
  rw[e1,e2]
  generalize v%256=r at *
  generalize v/256=h at *
  clear e1 e2 h0 h1
  rcases(show h%2=0∨h%2=1 by omega)with t|t<;>rw[t]<;>omega
 ·have e1:v/256=v/128/2:=by omega
  have e2:v%256=v/128%2*128+v%128:=by omega
  have e3:0≤v%128:=by omega
  have e4:v%128<128:=by omega
  have e5:0≤v/128:=by omega
  have e6:v/128<33554432:=by omega
  simp
  rw[e1,e2]
  generalize v%128=r at *
  generalize v/128=h at *
  clear e1 e2 h0 h1
  rcases(show h%2=0∨h%2=1 by omega)with t|t<;>rw[t]<;>omega
 ·have e1:v/128=v/64/2:=by omega
  have e2:v%128=v/64%2*64+v%64:=by omega
  have e3:0≤v%64:=by omega
  have e4:v%64<64:=by omega
  have e5:0≤v/64:=by omega
  have e6:v/64<67108864:=by omega
  simp
  rw[e1,e2]
  generalize v%64=r at *
  generalize v/64=h at *
  clear e1 e2 h0 h1
  rcases(show h%2=0∨h%2=1 by omega)with t|t<;>rw[t]<;>omega
 ·have e1:v/64=v/32/2:=by omega
  have e2:v%64=v/32%2*32+v%32:=by omega
  have e3:0≤v%32:=by omega
  have e4:v%32<32:=by omega
  have e5:0≤v/32:=by omega
  have e6:v/32<134217728:=by omega
  simp
  rw[e1,e2]
  generalize v%32=r at *
  generalize v/32=h at *
  clear e1 e2 h0 h1
  rcases(show h%2=0∨h%2=1 by omega)with t|t<;>rw[t]<;>omega
 ·have e1:v/32=v/16/2:=by omega
  have e2:v%32=v/16%2*16+v%16:=by omega
  have e3:0≤v%16:=by omega
  have e4:v%16<16:=by omega
  have e5:0≤v/16:=by omega
  have e6:v/16<268435456:=by omega
  simp
  rw[e1,e2]
  generalize v%16=r at *
  generalize v/16=h at *
  clear e1 e2 h0 h1
  rcases(show h%2=0∨h%2=1 by omega)with t|t<;>rw[t]<;>omega
 ·have e1:v/16=v/8/2:=by omega
  have e2:v%16=v/8%2*8+v%8:=by omega
  have e3:0≤v%8:=by omega
  have e4:v%8<8:=by omega
  have e5:0≤v/8:=by omega
  have e6:v/8<536870912:=by omega
  simp
  rw[e1,e2]
  generalize v%8=r at *
  generalize v/8=h at *
  clear e1 e2 h0 h1
  rcases(show h%2=0∨h%2=1 by omega)with t|t<;>rw[t]<;>omega
 ·have e1:v/8=v/4/2:=by omega
  have e2:v%8=v/4%2*4+v%4:=by omega
  have e3:0≤v%4:=by omega
  have e4:v%4<4:=by omega
  have e5:0≤v/4:=by omega
  have e6:v/4<1073741824:=by omega
  simp
  rw[e1,e2]
  generalize v%4=r at *
  generalize v/4=h at *
  clear e1 e2 h0 h1
  rcases(show h%2=0∨h%2=1 by omega)with t|t<;>rw[t]<;>omega
 ·have e1:v/4=v/2/2:=by omega
  have e2:v%4=v/2%2*2+v%2:=by omega
  have e3:0≤v%2:=by omega
  have e4:v%2<2:=by omega
  have e5:0≤v/2:=by omega
  have e6:v/2<2147483648:=by omega
  simp
  rw[e1,e2]
  generalize v%2=r at *
  generalize v/2=h at *
  clear e1 e2 h0 h1
  rcases(show h%2=0∨h%2=1 by omega)with t|t<;>rw[t]<;>omega
 ·omega
theorem ror_step(v:Int)(k:Nat)(hk:k<31):rorV v k/2+rorV v k%2*2147483648=rorV v (k+1):=by
 unfold rorV
 rcases below32 (k:=k) (by omega)with rfl|rfl|rfl|rfl|rfl|rfl|rfl|rfl|rfl|rfl|rfl|rfl|rfl|rfl|rfl|rfl|rfl|rfl|rfl|rfl|rfl|rfl|rfl|rfl|rfl|rfl|rfl|rfl|rfl|rfl|rfl|rfl<;>simp<;>omega
theorem sar_step(v:Int)(k:Nat)(hk:k<31):sarV v k/2+sarV v k/2147483648*2147483648=sarV v (k+1):=by
 unfold sarV wrap32
 rcases below32 (k:=k) (by omega)with rfl|rfl|rfl|rfl|rfl|rfl|rfl|rfl|rfl|rfl|rfl|rfl|rfl|rfl|rfl|rfl|rfl|rfl|rfl|rfl|rfl|rfl|rfl|rfl|rfl|rfl|rfl|rfl|rfl|rfl|rfl|rfl<;>simp<;>omega
/-! what went out last -/
def shlC(v:Int)(k:Nat):Bool:=match k with|0=>false|i+1=>bt (shlV v i) 31
def shrC(v:Int)(k:Nat):Bool:=match k with|0=>false|i+1=>bt (shrV v i) 0
def sarC(v:Int)(k:Nat):Bool:=match k with|0=>false|i+1=>bt (sarV v i) 0
def rolC(v:Int)(k:Nat):Bool:=match k with|0=>false|i+1=>bt (rolV v (i+1)) 0
def rorC(v:Int)(k:Nat):Bool:=match k with|0=>false|i+1=>bt (rorV v (i+1)) 31
theorem top_eq(x:Int)(h0:0≤x)(h1:x<4294967296):(x/2147483648==1)=bt x 31:=by
 unfold bt
 rw[Bool.eq_iff_iff]
 simp only[beq_iff_eq,decide_eq_true_eq]
 omega
theorem low_eq(x:Int)(h0:0≤x)(h1:x<4294967296):(bits .and .u32 x 1==1)=bt x 0:=by
 rw[and_one x h0 h1]
 unfold bt
 rw[Bool.eq_iff_iff]
 simp
theorem zero_V(v:Int)(h0:0≤v)(h1:v<4294967296):shlV v 0=v∧shrV v 0=v∧sarV v 0=v∧rolV v 0=v∧rorV v 0=v:=by
 unfold shlV shrV sarV rolV rorV wrap32
 simp
 omega
theorem sar_or(x:Int)(h0:0≤x)(h1:x<4294967296):bits .or .u32 (x/2) (x/2147483648*2147483648)=x/2+x/2147483648*2147483648:=by
 rw[or_comm32,Int.add_comm (x/2)]
 exact bits_join .u32 32 (by decide) (fun m h0 h1=>by rw[IntKind.wrap_u32];omega) 31 _ _ (by omega) (by simp) (by simp;omega) (by omega) (by simp;omega) (by simp;omega)
theorem rol_or(x:Int)(h0:0≤x)(h1:x<4294967296):bits .or .u32 (x*2%4294967296) (x/2147483648)=x*2%4294967296+x/2147483648:=
 bits_join .u32 32 (by decide) (fun m h0 h1=>by rw[IntKind.wrap_u32];omega) 1 _ _ (by omega) (by omega) (by simp;omega) (by omega) (by simp;omega) (by simp;omega)
theorem ror_or(x:Int)(h0:0≤x)(h1:x<4294967296):bits .or .u32 (x/2) (bits .and .u32 x 1*2147483648%4294967296)=x/2+x%2*2147483648:=by
 rw[and_one x h0 h1,show x%2*2147483648%4294967296=x%2*2147483648 by omega,or_comm32,Int.add_comm (x/2)]
 exact bits_join .u32 32 (by decide) (fun m h0 h1=>by rw[IntKind.wrap_u32];omega) 31 _ _ (by omega) (by simp) (by simp;omega) (by omega) (by simp;omega) (by simp;omega)
theorem bits31(x:Int)(h0:0≤x)(h1:x<4294967296):bits .and .u32 x 31=x%32:=
 bits_mask .u32 32 (by decide) (fun m h0 h1=>by rw[IntKind.wrap_u32];omega) 5 (by decide) x h0 (by simpa using h1)
theorem two_tops(x:Int)(h0:0≤x)(h1:x<4294967296):(x/2147483648 != bits .and .u32 (x/1073741824) 1)=(bt x 31 != bt x 30):=by
 rw[and_one _ (by omega) (by omega)]
 unfold bt
 rw[Bool.eq_iff_iff]
 simp only[bne_iff_ne,ne_eq,decide_eq_decide]
 omega
/-! the five together -/
def isSh(op:Int):Bool:=decide (26≤op∧op≤30)
def kept(op:Int)(k:Nat):Bool:=k==0 || !isSh op
def shV(op v:Int)(k:Nat):Int:=if kept op k then v else if op=28 then shlV v k else if op=29 then shrV v k else if op=30 then sarV v k else if op=26 then rolV v k else rorV v k
def sfC(op v:Int)(k:Nat)(c:Bool):Bool:=if kept op k then c else if op=28 then shlC v k else if op=29 then shrC v k else if op=30 then sarC v k else if op=26 then rolC v k else rorC v k
def sfP(op v:Int)(k:Nat)(p:Bool):Bool:=if kept op k then p else if op=26∨op=27 then p else par (shV op v k)
def sfZ(op v:Int)(k:Nat)(z:Bool):Bool:=if kept op k then z else if op=26∨op=27 then z else zer (shV op v k)
def sfS(op v:Int)(k:Nat)(s:Bool):Bool:=if kept op k then s else if op=26∨op=27 then s else bt (shV op v k) 31
def sfO(op v:Int)(k:Nat)(o:Bool):Bool:=if kept op k then o else if op=28 then !(bt (shlV v k) 31==shlC v k)else if op=29 then bt v 31 else if op=30 then false else if op=26 then !(bt (rolV v k) 31==rolC v k)else bt (rorV v k) 31 != bt (rorV v k) 30
theorem shift_ways(op:Int)(k:Nat):kept op k=true∨(kept op k=false∧1≤k∧(op=26∨op=27∨op=28∨op=29∨op=30)):=by
 cases h:kept op k
 ·right
  unfold kept isSh at h
  simp at h
  exact⟨rfl,by omega,by omega⟩
 ·left;rfl
theorem kept_ways(op:Int)(k:Nat)(h:kept op k=true):k=0∨((op==26)=false∧(op==27)=false∧(op==28)=false∧(op==29)=false∧(op==30)=false):=by
 unfold kept isSh at h
 simp at h
 simp
 omega
/-! which bit goes out -/
theorem shl_out(v:Int)(k:Nat)(hk:k<31):shlC v (k+1)=bt v (31-k):=by
 show bt (shlV v k) 31=bt v (31-k)
 unfold shlV
 rw[shl_low v k (by omega)]
 unfold bt
 congr 1
 apply propext
 rcases below32 (k:=k) (by omega)with rfl|rfl|rfl|rfl|rfl|rfl|rfl|rfl|rfl|rfl|rfl|rfl|rfl|rfl|rfl|rfl|rfl|rfl|rfl|rfl|rfl|rfl|rfl|rfl|rfl|rfl|rfl|rfl|rfl|rfl|rfl|rfl<;>simp<;>omega
theorem shr_out(v:Int)(k:Nat):shrC v (k+1)=bt v k:=by
 show bt (shrV v k) 0=bt v k
 unfold shrV bt
 simp
theorem sar_out(v:Int)(k:Nat)(hk:k<31):sarC v (k+1)=bt v k:=by
 show bt (sarV v k) 0=bt v k
 unfold sarV bt wrap32
 congr 1
 apply propext
 rcases below32 (k:=k) (by omega)with rfl|rfl|rfl|rfl|rfl|rfl|rfl|rfl|rfl|rfl|rfl|rfl|rfl|rfl|rfl|rfl|rfl|rfl|rfl|rfl|rfl|rfl|rfl|rfl|rfl|rfl|rfl|rfl|rfl|rfl|rfl|rfl<;>simp<;>omega
/-! two shifts are one -/
theorem shV_lo(op v:Int)(k:Nat)(h0:0≤v):0≤shV op v k:=by
 unfold shV
 repeat' split
 all_goals first|exact h0|exact shl_lo _ _|exact shr_lo _ _ h0|exact sar_lo _ _|exact rol_lo _ _ h0|exact ror_lo _ _ h0
theorem shV_hi(op v:Int)(k:Nat)(hk:k<32)(h0:0≤v)(h1:v<4294967296):shV op v k<4294967296:=by
 unfold shV
 repeat' split
 all_goals first|exact h1|exact shl_hi _ _|exact shr_hi _ _ h0 h1|exact sar_hi _ _|exact rol_hi _ _ hk h0 h1|exact ror_hi _ _ hk h0 h1
/-! turns as two shifts laid together -/
theorem rol_is(v:Int)(k:Nat)(h1k:1≤k)(hk:k<32)(h0:0≤v)(h1:v<4294967296):bits .or .u32 (v*2^k%4294967296) (v/2^(32-k))=rolV v k:=by
 have hh:v/2^(32-k)<2^k:=by
  rcases below32 hk with rfl|rfl|rfl|rfl|rfl|rfl|rfl|rfl|rfl|rfl|rfl|rfl|rfl|rfl|rfl|rfl|rfl|rfl|rfl|rfl|rfl|rfl|rfl|rfl|rfl|rfl|rfl|rfl|rfl|rfl|rfl|rfl<;>simp<;>omega
 have hp:(2:Int)^k≤2147483648:=by
  rcases below32 hk with rfl|rfl|rfl|rfl|rfl|rfl|rfl|rfl|rfl|rfl|rfl|rfl|rfl|rfl|rfl|rfl|rfl|rfl|rfl|rfl|rfl|rfl|rfl|rfl|rfl|rfl|rfl|rfl|rfl|rfl|rfl|rfl<;>decide
 have hg:0≤v/2^(32-k):=Int.ediv_nonneg h0 (Int.le_of_lt (Int.pow_pos (by decide)))
 unfold rolV
 rw[←shl_low v k hk]
 refine bits_join .u32 32 (by decide) (fun m h0 h1=>by rw[IntKind.wrap_u32];omega) k _ _ (by omega) ?_ (by simp;omega) hg hh (by simp;omega)
 rw[shl_low v k hk]
 exact Int.mul_emod_left _ _
theorem ror_is(v:Int)(k:Nat)(h1k:1≤k)(hk:k<32)(h0:0≤v)(h1:v<4294967296):bits .or .u32 (v/2^k) (v*2^(32-k)%4294967296)=rorV v k:=by
 have hh:v/2^k<2^(32-k):=by
  rcases below32 hk with rfl|rfl|rfl|rfl|rfl|rfl|rfl|rfl|rfl|rfl|rfl|rfl|rfl|rfl|rfl|rfl|rfl|rfl|rfl|rfl|rfl|rfl|rfl|rfl|rfl|rfl|rfl|rfl|rfl|rfl|rfl|rfl<;>simp<;>omega
 have hp:v/2^k<4294967296:=shr_hi v k h0 h1
 have hg:0≤v/2^k:=shr_lo v k h0
 have hl:=shl_low v (32-k) (by omega)
 rw[show 32-(32-k)=k by omega]at hl
 unfold rorV
 rw[←hl,or_comm32,Int.add_comm]
 refine bits_join .u32 32 (by decide) (fun m h0 h1=>by rw[IntKind.wrap_u32];omega) (32-k) _ _ (by omega) ?_ (by simp;omega) hg hh (by simpa using hp)
 rw[hl]
 exact Int.mul_emod_left _ _
end
end Go.Proofs.YtmdncgfheeijaaaGreat
