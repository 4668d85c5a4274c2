import Derived.WalkKit
import Derived.Test.YtmdncgfheeijaaaGreatRows
import Derived.ProofKit
import Derived.OpenShut
import Derived.BigRegion
import Derived.Lib.Hide
namespace Go.Proofs.YtmdncgfheeijaaaGreat
section
open Go.RowKit
set_option maxRecDepth 100000
def wid(n:Int):Nat:=if n<2 then 8 else if n<4 then 16 else 32
def cut(v n:Int):Int:=v%2^(wid n)
def bt(v:Int)(k:Nat):Bool:=decide (v/2^k%2=1)
def hi(v n:Int):Bool:=bt v (wid n-1)
def par(v:Int):Bool:=decide ((v%2+v/2%2+v/4%2+v/8%2+v/16%2+v/32%2+v/64%2+v/128%2)%2=0)
def zer(v:Int):Bool:=v==0
def sgn(v n:Int):Int:=if hi (cut v n) n then cut v n-2^wid n else cut v n
def addV(a b n:Int)(c:Bool):Int:=cut (cut a n+cut b n+c.toNat) n
def addC(a b n:Int)(c:Bool):Bool:=decide (2^wid n≤cut a n+cut b n+c.toNat)
def addO(a b n:Int)(c:Bool):Bool:=(hi (cut a n) n==hi (cut b n) n)&&(hi (addV a b n c) n != hi (cut a n) n)
def subV(a b n:Int)(c:Bool):Int:=cut (cut a n-cut b n-c.toNat) n
def subC(a b n:Int)(c:Bool):Bool:=decide (cut a n<cut b n+c.toNat)
def subO(a b n:Int)(c:Bool):Bool:=(hi (cut a n) n != hi (cut b n) n)&&(hi (subV a b n c) n != hi (cut a n) n)
def stepV(v n by_:Int):Int:=if 0<by_ then addV v 1 n false else subV v 1 n false
def stepO(v n by_:Int):Bool:=if 0<by_ then addO v 1 n false else subO v 1 n false
theorem wid_cases(n:Int):wid n=8∨wid n=16∨wid n=32:=by unfold wid;split<;>(try split)<;>simp
theorem wid_lo(n:Int):(8:Int)≤wid n:=by rcases wid_cases n with h|h|h<;>rw[h]<;>decide
theorem wid_hi(n:Int):(wid n:Int)≤32:=by rcases wid_cases n with h|h|h<;>rw[h]<;>decide
theorem cut_lo(v n:Int):0≤cut v n:=by
 unfold cut
 rcases wid_cases n with h|h|h<;>rw[h]<;>omega
theorem cut_hi(v n:Int):cut v n<4294967296:=by
 unfold cut
 rcases wid_cases n with h|h|h<;>rw[h]<;>omega
theorem cut_cut32(v n:Int):cut (v%4294967296) n=cut v n:=by
 unfold cut
 rcases wid_cases n with h|h|h<;>rw[h]<;>omega
theorem cut_cut(v n:Int):cut (cut v n) n=cut v n:=by
 unfold cut
 rcases wid_cases n with h|h|h<;>rw[h]<;>omega
theorem toNat_hi(c:Bool):(c.toNat:Int)≤1:=by cases c<;>decide
theorem toNat_lo(c:Bool):0≤(c.toNat:Int):=Int.natCast_nonneg _
theorem addV_lo(a b n:Int)(c:Bool):0≤addV a b n c:=cut_lo _ _
theorem addV_hi(a b n:Int)(c:Bool):addV a b n c<4294967296:=cut_hi _ _
theorem subV_lo(a b n:Int)(c:Bool):0≤subV a b n c:=cut_lo _ _
theorem subV_hi(a b n:Int)(c:Bool):subV a b n c<4294967296:=cut_hi _ _
theorem stepV_lo(v n i:Int):0≤stepV v n i:=by unfold stepV;split<;>exact cut_lo _ _
theorem stepV_hi(v n i:Int):stepV v n i<4294967296:=by unfold stepV;split<;>exact cut_hi _ _
/-! bits of a number of 32 bits -/
theorem bt_nat(x:Nat)(k:Nat):bt (x:Int) k=x.testBit k:=by
 unfold bt
 rw[Nat.testBit_eq_decide_div_mod_eq]
 have:((x:Int)/2^k%2)=((x/2^k%2:Nat):Int):=by simp
 rw[this]
 congr 1
 exact propext ⟨fun h=>by exact_mod_cast h,fun h=>by exact_mod_cast h⟩
theorem and_lo(a b:Int)(h1:0≤a)(h2:a<4294967296)(h3:0≤b)(h4:b<4294967296):0≤bits .and .u32 a b:=by
 rw[u32_and a b h1 h2 h3 h4];exact Int.natCast_nonneg _
theorem and_hi(a b:Int)(h1:0≤a)(h2:a<4294967296)(h3:0≤b)(h4:b<4294967296):bits .and .u32 a b<4294967296:=by
 rw[u32_and a b h1 h2 h3 h4]
 have:a.toNat &&& b.toNat<2^32:=Nat.and_lt_two_pow _ (by omega)
 omega
theorem xor_lo(a b:Int)(h1:0≤a)(h2:a<4294967296)(h3:0≤b)(h4:b<4294967296):0≤bits .xor .u32 a b:=by
 rw[u32_xor a b h1 h2 h3 h4];exact Int.natCast_nonneg _
theorem xor_hi(a b:Int)(h1:0≤a)(h2:a<4294967296)(h3:0≤b)(h4:b<4294967296):bits .xor .u32 a b<4294967296:=by
 rw[u32_xor a b h1 h2 h3 h4]
 have:a.toNat ^^^ b.toNat<2^32:=Nat.xor_lt_two_pow (by omega) (by omega)
 omega
theorem bt_and(a b:Int)(k:Nat)(h1:0≤a)(h2:a<4294967296)(h3:0≤b)(h4:b<4294967296):bt (bits .and .u32 a b) k=(bt a k&&bt b k):=by
 rw[u32_and a b h1 h2 h3 h4]
 obtain⟨A,rfl⟩:=Int.eq_ofNat_of_zero_le h1
 obtain⟨B,rfl⟩:=Int.eq_ofNat_of_zero_le h3
 simp only[bt_nat,Int.toNat_natCast,Nat.testBit_and]
theorem bt_xor(a b:Int)(k:Nat)(h1:0≤a)(h2:a<4294967296)(h3:0≤b)(h4:b<4294967296):bt (bits .xor .u32 a b) k=(bt a k != bt b k):=by
 rw[u32_xor a b h1 h2 h3 h4]
 obtain⟨A,rfl⟩:=Int.eq_ofNat_of_zero_le h1
 obtain⟨B,rfl⟩:=Int.eq_ofNat_of_zero_le h3
 simp only[bt_nat,Int.toNat_natCast,Nat.testBit_xor,bne]
theorem and_bit(v:Int)(k:Nat)(hk:k<32)(h1:0≤v)(h2:v<4294967296):bits .and .u32 v (2^k)=if bt v k then 2^k else 0:=by
 have hp:(2:Int)^k<4294967296:=by
  have:(2:Int)^k<2^32:=Int.pow_lt_pow_of_lt (by decide) hk
  simpa using this
 have hq:(0:Int)≤2^k:=Int.le_of_lt (Int.pow_pos (by decide))
 rw[u32_and v _ h1 h2 hq hp]
 obtain⟨V,rfl⟩:=Int.eq_ofNat_of_zero_le h1
 rw[toNat_two_pow,Int.toNat_natCast,bt_nat,Nat.testBit_eq_decide_div_mod_eq,nat_bit]
 have h2:V/2^k%2=0∨V/2^k%2=1:=by omega
 rcases h2 with h2|h2<;>rw[h2]<;>simp
theorem and_bit_ne(v:Int)(k:Nat)(hk:k<32)(h1:0≤v)(h2:v<4294967296):(bits .and .u32 v (2^k) != 0)=bt v k:=by
 rw[and_bit v k hk h1 h2]
 have hq:(2:Int)^k≠0:=Int.ne_of_gt (Int.pow_pos (by decide))
 cases bt v k<;>simp[hq]
/-! what the program's own sums come to -/
theorem cut_eq(v n:Int):v*2^(32-wid n)%4294967296/2^(32-wid n)=cut v n:=by
 unfold cut
 rcases wid_cases n with h|h|h<;>rw[h]<;>simp<;>omega
theorem sgn_eq(v n:Int):wrap32 (v*2^(32-wid n)%4294967296)/2^(32-wid n)=sgn v n:=by
 unfold sgn hi bt cut wrap32
 rcases wid_cases n with h|h|h<;>rw[h]<;>simp<;>split<;>omega
theorem high_eq(v n:Int)(h0:0≤v)(h1:v<4294967296):(bits .and .u32 (v/2^(wid n-1)) 1 != 0)=hi v n:=by
 have h2:0≤v/2^(wid n-1):=Int.ediv_nonneg h0 (Int.le_of_lt (Int.pow_pos (by decide)))
 have h3:v/2^(wid n-1)≤v:=Int.ediv_le_self _ h0
 have h:=and_bit_ne (v/2^(wid n-1)) 0 (by decide) h2 (by omega)
 simp only[Int.pow_zero]at h
 rw[h]
 unfold hi bt
 simp
theorem par_fin:∀k:Fin 256,(bits .and .u8 (bits .xor .u8 (bits .xor .u8 (bits .xor .u8 (k:Int) ((k:Int)/16)) (bits .xor .u8 (k:Int) ((k:Int)/16)/4)) (bits .xor .u8 (bits .xor .u8 (k:Int) ((k:Int)/16)) (bits .xor .u8 (k:Int) ((k:Int)/16)/4)/2)) 1==0)=par k:=by
 decide +kernel
theorem par_mod(v:Int):par (v%256)=par v:=by
 unfold par
 rw[show v%256%2=v%2 by omega,show v%256/2%2=v/2%2 by omega,show v%256/4%2=v/4%2 by omega,show v%256/8%2=v/8%2 by omega,
  show v%256/16%2=v/16%2 by omega,show v%256/32%2=v/32%2 by omega,show v%256/64%2=v/64%2 by omega,show v%256/128%2=v/128%2 by omega]
theorem par_eq(v:Int):(bits .and .u8 (bits .xor .u8 (bits .xor .u8 (bits .xor .u8 (v%256) (v%256/16)) (bits .xor .u8 (v%256) (v%256/16)/4)) (bits .xor .u8 (bits .xor .u8 (v%256) (v%256/16)) (bits .xor .u8 (v%256) (v%256/16)/4)/2)) 1==0)=par v:=by
 have h0:0≤v%256:=by omega
 have h1:v%256<256:=by omega
 rw[←par_mod v]
 generalize v%256=u at *
 obtain⟨U,rfl⟩:=Int.eq_ofNat_of_zero_le h0
 exact par_fin ⟨U,by omega⟩
theorem addC_eq(a b n:Int)(c:Bool):((cut a n+cut b n+(c.toNat:Int))/2^min (wid n) 64 != 0)=addC a b n c:=by
 have a0:=cut_lo a n
 have a1:=cut_hi a n
 have b0:=cut_lo b n
 have b1:=cut_hi b n
 have c0:=toNat_lo c
 rw[Bool.eq_iff_iff]
 unfold addC
 generalize (c.toNat:Int)=x at *
 simp only[bne_iff_ne,ne_eq,decide_eq_true_eq]
 rcases wid_cases n with h|h|h<;>rw[h]<;>simp<;>omega
theorem addO_eq(a b n:Int)(c:Bool):hi (bits .and .u32 (bits .xor .u32 (cut a n) (addV a b n c)) (bits .xor .u32 (cut b n) (addV a b n c))) n=addO a b n c:=by
 have a0:=cut_lo a n
 have a1:=cut_hi a n
 have b0:=cut_lo b n
 have b1:=cut_hi b n
 have v0:=addV_lo a b n c
 have v1:=addV_hi a b n c
 unfold addO hi
 rw[bt_and _ _ _ (xor_lo _ _ a0 a1 v0 v1) (xor_hi _ _ a0 a1 v0 v1) (xor_lo _ _ b0 b1 v0 v1) (xor_hi _ _ b0 b1 v0 v1),bt_xor _ _ _ a0 a1 v0 v1,bt_xor _ _ _ b0 b1 v0 v1]
 cases bt (cut a n) (wid n-1)<;>cases bt (cut b n) (wid n-1)<;>cases bt (addV a b n c) (wid n-1)<;>rfl
theorem subO_eq(a b n:Int)(c:Bool):hi (bits .and .u32 (bits .xor .u32 (cut a n) (cut b n)) (bits .xor .u32 (cut a n) (subV a b n c))) n=subO a b n c:=by
 have a0:=cut_lo a n
 have a1:=cut_hi a n
 have b0:=cut_lo b n
 have b1:=cut_hi b n
 have v0:=subV_lo a b n c
 have v1:=subV_hi a b n c
 unfold subO hi
 rw[bt_and _ _ _ (xor_lo _ _ a0 a1 b0 b1) (xor_hi _ _ a0 a1 b0 b1) (xor_lo _ _ a0 a1 v0 v1) (xor_hi _ _ a0 a1 v0 v1),bt_xor _ _ _ a0 a1 v0 v1,bt_xor _ _ _ a0 a1 b0 b1]
 cases bt (cut a n) (wid n-1)<;>cases bt (cut b n) (wid n-1)<;>cases bt (subV a b n c) (wid n-1)<;>rfl
theorem bcell{W w1:World}(hb:Below W.heap.size W w1):(∀b o,b<W.heap.size→w1.cell? ⟨b,o,none⟩=W.cell? ⟨b,o,none⟩)∧(∀b o,b<W.heap.size→w1.frozen? ⟨b,o,none⟩=W.frozen? ⟨b,o,none⟩):=
 ⟨fun b o h=>hb.cell (p:=⟨b,o,none⟩) h,fun b o h=>hb.frozen (p:=⟨b,o,none⟩) h⟩
/-! what the document's own sums come to -/
theorem or_comm32(a b:Int):bits .or .u32 a b=bits .or .u32 b a:=by
 simp only[bits,BitVec.or_comm]
theorem and_one(v:Int)(h0:0≤v)(h1:v<4294967296):bits .and .u32 v 1=v%2:=
 bits_mask .u32 32 (by decide) (fun m h0 h1=>by rw[IntKind.wrap_u32];omega) 1 (by decide) v h0 (by simpa using h1)
theorem bsize{W W1:World}{o:Obj}(hb:Below (W.alloc o).heap.size (W.alloc o) W1):W.heap.size<W1.heap.size:=by
 have:=hb.size
 simp at this
 omega
theorem below_next{w W W1:World}{o:Obj}(h:Below w.heap.size w W)(hb:Below (W.alloc o).heap.size (W.alloc o) W1):Below w.heap.size w W1:=
 (h.alloc h.size _).trans (hb.mono (by have:=h.size;simp;omega))
theorem below_undrew{a w:World}(h:Below a.drew.heap.size a.drew w):Below a.heap.size a w:=⟨h.os,h.tape,h.output,h.size,h.block⟩
theorem below_last{w W:World}(h:Below w.heap.size w W)(o:Obj):Below w.heap.size w (W.alloc o):=h.alloc h.size o
/-! what lies in a block stays there,call by call -/
theorem cell_lt{W:World}{p:Addr}{x:Value}(h:W.cell? p=some x):p.block<W.heap.size:=by
 unfold World.cell? at h
 rcases Nat.lt_or_ge p.block W.heap.size with hl|hl
 ·exact hl
 ·rw[Array.getElem?_eq_none hl]at h
  simp at h
theorem cell_call{W W1:World}{p:Addr}{x:Value}(hb:Below W.heap.size W W1)(h:W.cell? p=some x):W1.cell? p=some x:=by
 rw[hb.cell (cell_lt h),h]
theorem max_u32:IntKind.u32.max=4294967295:=by decide
theorem isSome_setCell(w:World)(a b:Addr)(v:Value):((w.setCell a v).cell? b).isSome=(w.cell? b).isSome:=by
 by_cases h:a=b
 ·subst h
  cases hc:w.cell? a with
  |some u=>rw[World.cell?_setCell_same w a v hc];rfl
  |none=>
   cases hd:(w.setCell a v).cell? a with
   |none=>rfl
   |some u=>
    exfalso
    revert hc hd
    simp only[World.setCell,World.cell?,Array.getElem?_modify,↓reduceIte]
    cases w.heap[a.block]? with
    |none=>simp
    |some x=>
     cases x<;>simp
     cases hs:a.spot<;>simp
     intro hle;rw[Array.getElem?_eq_none (by simpa using hle)];simp
 ·rw[World.cell?_setCell_other w a b v h]
end
section
open Go.RowKit
set_option maxRecDepth 100000
def mulH(a b:Int):Int:=a*b/4294967296
def mulL(a b:Int):Int:=a*b%4294967296
def mulC(a b:Int):Bool:=a*b/4294967296 != 0
theorem mul_lo(a b:Int)(h0:0≤a)(k0:0≤b):0≤a*b:=Int.mul_nonneg h0 k0
theorem mul_hi(a b:Int)(h1:a<4294967296)(k0:0≤b)(k1:b<4294967296):a*b≤18446744065119617025:=by
 have h2:a*b≤4294967295*b:=Int.mul_le_mul_of_nonneg_right (by omega) k0
 omega
def imulP(a b:Int):Int:=wrap32 a*wrap32 b
def imulH(a b:Int):Int:=imulP a b%18446744073709551616/4294967296
def imulL(a b:Int):Int:=imulP a b%4294967296
def imulC(a b:Int):Bool:=decide (imulP a b < -2147483648) || decide (2147483647<imulP a b)
theorem wrap32_lo(a:Int):-2147483648≤wrap32 a:=by unfold wrap32;omega
theorem wrap32_hi(a:Int):wrap32 a≤2147483647:=by unfold wrap32;omega
theorem imul_lo(a b:Int):-4611686018427387904≤imulP a b:=by
 have a0:=wrap32_lo a
 have a1:=wrap32_hi a
 have b0:=wrap32_lo b
 have b1:=wrap32_hi b
 unfold imulP
 generalize wrap32 a=x at *
 generalize wrap32 b=y at *
 rcases Int.lt_or_le x 0 with h|h
 ·rcases Int.lt_or_le y 0 with g|g
  ·have:=Int.mul_nonneg (show 0≤-x by omega) (show 0≤-y by omega)
   rw[Int.neg_mul_neg]at this
   omega
  ·have h2:-x*y≤2147483648*y:=Int.mul_le_mul_of_nonneg_right (by omega) g
   rw[Int.neg_mul]at h2
   omega
 ·rcases Int.lt_or_le y 0 with g|g
  ·have h2:-y*x≤2147483648*x:=Int.mul_le_mul_of_nonneg_right (by omega) h
   rw[Int.neg_mul,Int.mul_comm y x]at h2
   omega
  ·have:=Int.mul_nonneg h g
   omega
theorem imul_hi(a b:Int):imulP a b≤4611686018427387904:=by
 have a0:=wrap32_lo a
 have a1:=wrap32_hi a
 have b0:=wrap32_lo b
 have b1:=wrap32_hi b
 unfold imulP
 generalize wrap32 a=x at *
 generalize wrap32 b=y at *
 rcases Int.lt_or_le x 0 with h|h
 ·rcases Int.lt_or_le y 0 with g|g
  ·have h2:-x*-y≤2147483648*-y:=Int.mul_le_mul_of_nonneg_right (by omega) (by omega)
   rw[Int.neg_mul_neg]at h2
   omega
  ·have:=Int.mul_nonneg (show 0≤-x by omega) g
   rw[Int.neg_mul]at this
   omega
 ·rcases Int.lt_or_le y 0 with g|g
  ·have:=Int.mul_nonneg h (show 0≤-y by omega)
   rw[Int.mul_neg]at this
   omega
  ·have h2:x*y≤2147483648*y:=Int.mul_le_mul_of_nonneg_right (by omega) g
   omega
def both(h l:Int):Int:=h*4294967296+l
theorem both_or(h l:Int)(h0:0≤h)(h1:h<4294967296)(l0:0≤l)(l1:l<4294967296):bits .or .u64 (h*4294967296) l=both h l:=
 bits_join .u64 64 (by decide) (fun m h0 h1=>by rw[IntKind.wrap_u64];omega) 32 _ _ (by omega) (by omega) (by simp;omega) l0 (by simpa using l1) (by simp;omega)
end
section
open Go.ChangeShapes Go.WideShapes Go.ChangeAt Go.RowKit
set_option maxRecDepth 100000
def divOk(hi_ by_:Int):Bool:=decide (hi_<by_)
def divQ(h l d:Int):Int:=if h<d then both h l/d else 0
def divR(h l d:Int):Int:=if h<d then both h l%d else 0
theorem both_q(h l d:Int)(h0:0≤h)(l0:0≤l)(l1:l<4294967296)(hd:h<d):0≤both h l/d∧both h l/d<4294967296:=by
 constructor
 ·exact Int.ediv_nonneg (by unfold both;omega) (by omega)
 ·refine Int.ediv_lt_of_lt_mul (by omega) ?_
  unfold both
  have:=Int.mul_le_mul_of_nonneg_right (show h+1≤d by omega) (show(0:Int)≤4294967296 by decide)
  rw[Int.mul_comm 4294967296 d]
  omega
end
section
open Go.ChangeShapes Go.WideShapes Go.ChangeAt Go.RowKit
set_option maxRecDepth 100000
def idN(h l:Int):Int:=wrap64 (both h l)
def idOk(h l b:Int):Bool:=decide (wrap32 b≠0∧-2147483648≤(idN h l).tdiv (wrap32 b)∧(idN h l).tdiv (wrap32 b)≤2147483647)
def idQ(h l b:Int):Int:=if idOk h l b then(idN h l).tdiv (wrap32 b)%4294967296 else 0
def idR(h l b:Int):Int:=if idOk h l b then(idN h l).tmod (wrap32 b)%4294967296 else 0
theorem tdiv_abs(n d:Int):-(n.natAbs:Int)≤n.tdiv d∧n.tdiv d≤n.natAbs:=by
 have h:(n.tdiv d).natAbs≤n.natAbs:=by rw[Int.natAbs_tdiv];exact Nat.div_le_self _ _
 omega
theorem tdiv_64(n d:Int)(h0:-9223372036854775808≤n)(h1:n≤9223372036854775807)(hx:¬(n=-9223372036854775808∧d=-1)):-9223372036854775808≤n.tdiv d∧n.tdiv d≤9223372036854775807:=by
 have h:=tdiv_abs n d
 by_cases hn:n=-9223372036854775808
 ·have hd:d≠-1:=fun e=>hx ⟨hn,e⟩
  subst hn
  refine⟨by omega,?_⟩
  have e:((-9223372036854775808:Int).tdiv d).natAbs=9223372036854775808/d.natAbs:=by rw[Int.natAbs_tdiv];rfl
  by_cases h1:d.natAbs=1
  ·have:d=1:=by omega
   subst this
   decide
  ·have:9223372036854775808/d.natAbs≤9223372036854775807:=by
    by_cases h0:d.natAbs=0
    ·rw[h0];decide
    ·exact Nat.le_of_lt_succ (Nat.div_lt_self (by decide) (by omega))
   omega
 ·omega
theorem tmod_32(n d:Int)(h0:-2147483648≤d)(h1:d≤2147483647)(hd:d≠0):-2147483648<n.tmod d∧n.tmod d<2147483648:=by
 have h:(n.tmod d).natAbs<d.natAbs:=by
  rw[Int.natAbs_tmod];exact Nat.mod_lt _ (by omega)
 omega
theorem wrap64_lo(a:Int):-9223372036854775808≤wrap64 a:=by unfold wrap64;omega
theorem wrap64_hi(a:Int):wrap64 a≤9223372036854775807:=by unfold wrap64;omega
end
end Go.Proofs.YtmdncgfheeijaaaGreat
