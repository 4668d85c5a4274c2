import Derived.WalkKit
import Derived.Test.YtmdncgfheeijaaaGreatRows
import Derived.ProofKit
import Derived.OpenShut
import Derived.BigRegion
import Derived.Lib.Hide
namespace Go.Proofs.YtmdncgfheeijaaaGreat
section
open Go.RowKit
set_option maxRecDepth 100000
def wid(n:Int):Nat:=if n<2 then 8 else if n<4 then 16 else 32
def cut(v n:Int):Int:=v%2^(wid n)
def bt(v:Int)(k:Nat):Bool:=decide (v/2^k%2=1)
def hi(v n:Int):Bool:=bt v (wid n-1)
def par(v:Int):Bool:=decide ((v%2+v/2%2+v/4%2+v/8%2+v/16%2+v/32%2+v/64%2+v/128%2)%2=0)
def zer(v:Int):Bool:=v==0
def sgn(v n:Int):Int:=if hi (cut v n) n then cut v n-2^wid n else cut v n
def addV(a b n:Int)(c:Bool):Int:=cut (cut a n+cut b n+c.toNat) n
def addC(a b n:Int)(c:Bool):Bool:=decide (2^wid n≤cut a n+cut b n+c.toNat)
def addO(a b n:Int)(c:Bool):Bool:=(hi (cut a n) n==hi (cut b n) n)&&(hi (addV a b n c) n != hi (cut a n) n)
def subV(a b n:Int)(c:Bool):Int:=cut (cut a n-cut b n-c.toNat) n
def subC(a b n:Int)(c:Bool):Bool:=decide (cut a n<cut b n+c.toNat)
def subO(a b n:Int)(c:Bool):Bool:=(hi (cut a n) n != hi (cut b n) n)&&(hi (subV a b n c) n != hi (cut a n) n)
def stepV(v n by_:Int):Int:=if 0<by_ then addV v 1 n false else subV v 1 n false
def stepO(v n by_:Int):Bool:=if 0<by_ then addO v 1 n false else subO v 1 n false
theorem wid_cases(n:Int):wid n=8∨wid n=16∨wid n=32:=by unfold wid;split<;>(try split)<;>simp
theorem wid_lo(n:Int):(8:Int)≤wid n:=by rcases wid_cases n with h|h|h<;>rw[h]<;>decide
theorem wid_hi(n:Int):(wid n:Int)≤32:=by rcases wid_cases n with h|h|h<;>rw[h]<;>decide
theorem cut_lo(v n:Int):0≤cut v n:=by
 unfold cut
 rcases wid_cases n with h|h|h<;>rw[h]<;>omega
theorem cut_hi(v n:Int):cut v n<4294967296:=by
 unfold cut
 rcases wid_cases n with h|h|h<;>rw[h]<;>omega
theorem cut_cut32(v n:Int):cut (v%4294967296) n=cut v n:=by
 unfold cut
 rcases wid_cases n with h|h|h<;>rw[h]<;>omega
theorem cut_cut(v n:Int):cut (cut v n) n=cut v n:=by
 unfold cut
 rcases wid_cases n with h|h|h<;>rw[h]<;>omega
theorem toNat_hi(c:Bool):(c.toNat:Int)≤1:=by cases c<;>decide
theorem toNat_lo(c:Bool):0≤(c.toNat:Int):=Int.natCast_nonneg _
theorem addV_lo(a b n:Int)(c:Bool):0≤addV a b n c:=cut_lo _ _
theorem addV_hi(a b n:Int)(c:Bool):addV a b n c<4294967296:=cut_hi _ _
theorem subV_lo(a b n:Int)(c:Bool):0≤subV a b n c:=cut_lo _ _
theorem subV_hi(a b n:Int)(c:Bool):subV a b n c<4294967296:=cut_hi _ _
theorem stepV_lo(v n i:Int):0≤stepV v n i:=by unfold stepV;split<;>exact cut_lo _ _
theorem stepV_hi(v n i:Int):stepV v n i<4294967296:=by unfold stepV;split<;>exact cut_hi _ _
/-! bits of a number of 32 bits -/
theorem bt_nat(x:Nat)(k:Nat):bt (x:Int) k=x.testBit k:=by
 unfold bt
 rw[Nat.testBit_eq_decide_div_mod_eq]
 have:((x:Int)/2^k%2)=((x/2^k%2:Nat):Int):=by simp
 rw[this]
 congr 1
 exact propext ⟨fun h=>by exact_mod_cast h,fun h=>by exact_mod_cast h⟩
theorem and_lo(a b:Int)(h1:0≤a)(h2:a<4294967296)(h3:0≤b)(h4:b<4294967296):0≤bits .and .u32 a b:=by
 rw[u32_and a b h1 h2 h3 h4];exact Int.natCast_nonneg _
theorem and_hi(a b:Int)(h1:0≤a)(h2:a<4294967296)(h3:0≤b)(h4:b<4294967296):bits .and .u32 a b<4294967296:=by
 rw[u32_and a b h1 h2 h3 h4]
 have:a.toNat &&& b.toNat<2^32:=Nat.and_lt_two_pow _ (by omega)
 omega
theorem xor_lo(a b:Int)(h1:0≤a)(h2:a<4294967296)(h3:0≤b)(h4:b<4294967296):0≤bits .xor .u32 a b:=by
 rw[u32_xor a b h1 h2 h3 h4];exact Int.natCast_nonneg _
theorem xor_hi(a b:Int)(h1:0≤a)(h2:a<4294967296)(h3:0≤b)(h4:b<4294967296):bits .xor .u32 a b<4294967296:=by
 rw[u32_xor a b h1 h2 h3 h4]
 have:a.toNat ^^^ b.toNat<2^32:=Nat.xor_lt_two_pow (by omega) (by omega)
 omega
theorem or_lo(a b:Int)(h1:0≤a)(h2:a<4294967296)(h3:0≤b)(h4:b<4294967296):0≤bits .or .u32 a b:=by
 rw[u32_or a b h1 h2 h3 h4];exact Int.natCast_nonneg _
theorem or_hi(a b:Int)(h1:0≤a)(h2:a<4294967296)(h3:0≤b)(h4:b<4294967296):bits .or .u32 a b<4294967296:=by
 rw[u32_or a b h1 h2 h3 h4]
 have:a.toNat ||| b.toNat<2^32:=Nat.or_lt_two_pow (by omega) (by omega)
 omega
theorem bt_and(a b:Int)(k:Nat)(h1:0≤a)(h2:a<4294967296)(h3:0≤b)(h4:b<4294967296):bt (bits .and .u32 a b) k=(bt a k&&bt b k):=by
 rw[u32_and a b h1 h2 h3 h4]
 obtain⟨A,rfl⟩:=Int.eq_ofNat_of_zero_le h1
 obtain⟨B,rfl⟩:=Int.eq_ofNat_of_zero_le h3
 simp only[bt_nat,Int.toNat_natCast,Nat.testBit_and]
theorem bt_xor(a b:Int)(k:Nat)(h1:0≤a)(h2:a<4294967296)(h3:0≤b)(h4:b<4294967296):bt (bits .xor .u32 a b) k=(bt a k != bt b k):=by
 rw[u32_xor a b h1 h2 h3 h4]
 obtain⟨A,rfl⟩:=Int.eq_ofNat_of_zero_le h1
 obtain⟨B,rfl⟩:=Int.eq_ofNat_of_zero_le h3
 simp only[bt_nat,Int.toNat_natCast,Nat.testBit_xor,bne]
theorem and_bit(v:Int)(k:Nat)(hk:k<32)(h1:0≤v)(h2:v<4294967296):bits .and .u32 v (2^k)=if bt v k then 2^k else 0:=by
 have hp:(2:Int)^k<4294967296:=by
  have:(2:Int)^k<2^32:=Int.pow_lt_pow_of_lt (by decide) hk
  simpa using this
 have hq:(0:Int)≤2^k:=Int.le_of_lt (Int.pow_pos (by decide))
 rw[u32_and v _ h1 h2 hq hp]
 obtain⟨V,rfl⟩:=Int.eq_ofNat_of_zero_le h1
 rw[toNat_two_pow,Int.toNat_natCast,bt_nat,Nat.testBit_eq_decide_div_mod_eq,nat_bit]
 have h2:V/2^k%2=0∨V/2^k%2=1:=by omega
 rcases h2 with h2|h2<;>rw[h2]<;>simp
theorem and_bit_ne(v:Int)(k:Nat)(hk:k<32)(h1:0≤v)(h2:v<4294967296):(bits .and .u32 v (2^k) != 0)=bt v k:=by
 rw[and_bit v k hk h1 h2]
 have hq:(2:Int)^k≠0:=Int.ne_of_gt (Int.pow_pos (by decide))
 cases bt v k<;>simp[hq]
theorem and_bit_eq(u v:Int)(k:Nat)(hk:k<32)(h1:0≤v)(h2:v<4294967296)(h3:0≤u)(h4:u<4294967296):(bits .and .u32 u (2^k)==bits .and .u32 v (2^k))=(bt u k==bt v k):=by
 rw[and_bit v k hk h1 h2,and_bit u k hk h3 h4]
 have hq:(2:Int)^k≠0:=Int.ne_of_gt (Int.pow_pos (by decide))
 cases bt v k<;>cases bt u k<;>simp[hq,Ne.symm hq]
/-! what the program's own sums come to -/
theorem cut_eq(v n:Int):v*2^(32-wid n)%4294967296/2^(32-wid n)=cut v n:=by
 unfold cut
 rcases wid_cases n with h|h|h<;>rw[h]<;>simp<;>omega
theorem sgn_eq(v n:Int):wrap32 (v*2^(32-wid n)%4294967296)/2^(32-wid n)=sgn v n:=by
 unfold sgn hi bt cut wrap32
 rcases wid_cases n with h|h|h<;>rw[h]<;>simp<;>split<;>omega
theorem high_eq(v n:Int)(h0:0≤v)(h1:v<4294967296):(bits .and .u32 (v/2^(wid n-1)) 1 != 0)=hi v n:=by
 have h2:0≤v/2^(wid n-1):=Int.ediv_nonneg h0 (Int.le_of_lt (Int.pow_pos (by decide)))
 have h3:v/2^(wid n-1)≤v:=Int.ediv_le_self _ h0
 have h:=and_bit_ne (v/2^(wid n-1)) 0 (by decide) h2 (by omega)
 simp only[Int.pow_zero]at h
 rw[h]
 unfold hi bt
 simp
theorem par_fin:∀k:Fin 256,(bits .and .u8 (bits .xor .u8 (bits .xor .u8 (bits .xor .u8 (k:Int) ((k:Int)/16)) (bits .xor .u8 (k:Int) ((k:Int)/16)/4)) (bits .xor .u8 (bits .xor .u8 (k:Int) ((k:Int)/16)) (bits .xor .u8 (k:Int) ((k:Int)/16)/4)/2)) 1==0)=par k:=by
 decide +kernel
theorem par_mod(v:Int):par (v%256)=par v:=by
 unfold par
 rw[show v%256%2=v%2 by omega,show v%256/2%2=v/2%2 by omega,show v%256/4%2=v/4%2 by omega,show v%256/8%2=v/8%2 by omega,
  show v%256/16%2=v/16%2 by omega,show v%256/32%2=v/32%2 by omega,show v%256/64%2=v/64%2 by omega,show v%256/128%2=v/128%2 by omega]
theorem par_eq(v:Int):(bits .and .u8 (bits .xor .u8 (bits .xor .u8 (bits .xor .u8 (v%256) (v%256/16)) (bits .xor .u8 (v%256) (v%256/16)/4)) (bits .xor .u8 (bits .xor .u8 (v%256) (v%256/16)) (bits .xor .u8 (v%256) (v%256/16)/4)/2)) 1==0)=par v:=by
 have h0:0≤v%256:=by omega
 have h1:v%256<256:=by omega
 rw[←par_mod v]
 generalize v%256=u at *
 obtain⟨U,rfl⟩:=Int.eq_ofNat_of_zero_le h0
 exact par_fin ⟨U,by omega⟩
theorem addC_eq(a b n:Int)(c:Bool):((cut a n+cut b n+(c.toNat:Int))/2^min (wid n) 64 != 0)=addC a b n c:=by
 have a0:=cut_lo a n
 have a1:=cut_hi a n
 have b0:=cut_lo b n
 have b1:=cut_hi b n
 have c0:=toNat_lo c
 rw[Bool.eq_iff_iff]
 unfold addC
 generalize (c.toNat:Int)=x at *
 simp only[bne_iff_ne,ne_eq,decide_eq_true_eq]
 rcases wid_cases n with h|h|h<;>rw[h]<;>simp<;>omega
theorem addO_eq(a b n:Int)(c:Bool):hi (bits .and .u32 (bits .xor .u32 (cut a n) (addV a b n c)) (bits .xor .u32 (cut b n) (addV a b n c))) n=addO a b n c:=by
 have a0:=cut_lo a n
 have a1:=cut_hi a n
 have b0:=cut_lo b n
 have b1:=cut_hi b n
 have v0:=addV_lo a b n c
 have v1:=addV_hi a b n c
 unfold addO hi
 rw[bt_and _ _ _ (xor_lo _ _ a0 a1 v0 v1) (xor_hi _ _ a0 a1 v0 v1) (xor_lo _ _ b0 b1 v0 v1) (xor_hi _ _ b0 b1 v0 v1),bt_xor _ _ _ a0 a1 v0 v1,bt_xor _ _ _ b0 b1 v0 v1]
 cases bt (cut a n) (wid n-1)<;>cases bt (cut b n) (wid n-1)<;>cases bt (addV a b n c) (wid n-1)<;>rfl
theorem subO_eq(a b n:Int)(c:Bool):hi (bits .and .u32 (bits .xor .u32 (cut a n) (cut b n)) (bits .xor .u32 (cut a n) (subV a b n c))) n=subO a b n c:=by
 have a0:=cut_lo a n
 have a1:=cut_hi a n
 have b0:=cut_lo b n
 have b1:=cut_hi b n
 have v0:=subV_lo a b n c
 have v1:=subV_hi a b n c
 unfold subO hi
 rw[bt_and _ _ _ (xor_lo _ _ a0 a1 b0 b1) (xor_hi _ _ a0 a1 b0 b1) (xor_lo _ _ a0 a1 v0 v1) (xor_hi _ _ a0 a1 v0 v1),bt_xor _ _ _ a0 a1 v0 v1,bt_xor _ _ _ a0 a1 b0 b1]
 cases bt (cut a n) (wid n-1)<;>cases bt (cut b n) (wid n-1)<;>cases bt (subV a b n c) (wid n-1)<;>rfl
theorem bcell{W w1:World}(hb:Below W.heap.size W w1):(∀b o,b<W.heap.size→w1.cell? ⟨b,o,none⟩=W.cell? ⟨b,o,none⟩)∧(∀b o,b<W.heap.size→w1.frozen? ⟨b,o,none⟩=W.frozen? ⟨b,o,none⟩):=
 ⟨fun b o h=>hb.cell (p:=⟨b,o,none⟩) h,fun b o h=>hb.frozen (p:=⟨b,o,none⟩) h⟩
/-! what the document's own sums come to -/
def byt(n:Int):Int:=if n<2 then 1 else if n<4 then 2 else 4
theorem byt_wid(n:Int):8*byt n=wid n:=by unfold byt wid;split<;>(try split)<;>simp
theorem byt_lo(n:Int):1≤byt n:=by unfold byt;split<;>(try split)<;>decide
theorem byt_hi(n:Int):byt n≤4:=by unfold byt;split<;>(try split)<;>decide
def tp(n:Int):Int:=2^(wid n-1)
theorem tp_pow(n:Int):(2:Int)^((8*byt n).toNat-1)%4294967296=tp n:=by
 unfold tp
 rw[byt_wid,Int.toNat_natCast]
 rcases wid_cases n with h|h|h<;>rw[h]<;>decide
theorem tp_lo(n:Int):1≤tp n:=by unfold tp;rcases wid_cases n with h|h|h<;>rw[h]<;>decide
theorem tp_hi(n:Int):tp n<4294967296:=by unfold tp;rcases wid_cases n with h|h|h<;>rw[h]<;>decide
theorem tp_mask(n:Int):bits .or .u32 (tp n) (tp n-1)=2^wid n-1:=by
 unfold tp;rcases wid_cases n with h|h|h<;>rw[h]<;>decide +kernel
theorem rcut_eq(v n:Int)(h0:0≤v)(h1:v<4294967296):bits .and .u32 v (bits .or .u32 (tp n) (tp n-1))=cut v n:=by
 rw[tp_mask]
 exact bits_mask .u32 32 (by decide) (fun m h0 h1=>by rw[IntKind.wrap_u32];omega) (wid n) (by have:=wid_hi n;omega) v h0 (by simpa using h1)
theorem tp_ne(v n:Int)(h0:0≤v)(h1:v<4294967296):(bits .and .u32 v (tp n) != 0)=hi v n:=
 and_bit_ne v (wid n-1) (by have:=wid_hi n;omega) h0 h1
theorem tp_eq(u v n:Int)(h0:0≤v)(h1:v<4294967296)(k0:0≤u)(k1:u<4294967296):(bits .and .u32 u (tp n)==bits .and .u32 v (tp n))=(hi u n==hi v n):=
 and_bit_eq u v (wid n-1) (by have:=wid_hi n;omega) h0 h1 k0 k1
theorem tp_neq(u v n:Int)(h0:0≤v)(h1:v<4294967296)(k0:0≤u)(k1:u<4294967296):(bits .and .u32 u (tp n) != bits .and .u32 v (tp n))=(hi u n != hi v n):=by
 have h:=tp_eq u v n h0 h1 k0 k1
 simp only[bne];rw[h]
theorem or_comm32(a b:Int):bits .or .u32 a b=bits .or .u32 b a:=by
 simp only[bits,BitVec.or_comm]
theorem hi_lt(v n:Int)(h:hi (cut v n) n=false):cut v n<2^(wid n-1):=by
 unfold hi bt at h
 simp only[decide_eq_false_iff_not]at h
 unfold cut at h ⊢
 rcases wid_cases n with h'|h'|h'<;>rw[h']at h ⊢ <;> simp at h ⊢ <;> omega
theorem hi_ge(v n:Int)(h:hi (cut v n) n=true):2^(wid n-1)≤cut v n:=by
 unfold hi bt at h
 simp only[decide_eq_true_eq]at h
 unfold cut at h ⊢
 rcases wid_cases n with h'|h'|h'<;>rw[h']at h ⊢ <;> simp at h ⊢ <;> omega
theorem cut_wid(v n:Int):cut v n<2^wid n:=by
 unfold cut
 rcases wid_cases n with h|h|h<;>rw[h]<;>omega
theorem inv_mask(n:Int):bits .xor .u32 4294967295 (bits .or .u32 (tp n) (tp n-1))=4294967296-2^wid n:=by
 rw[tp_mask]
 rcases wid_cases n with h|h|h<;>rw[h]<;>decide +kernel
theorem rsgn_pos(v n:Int)(h:hi (cut v n) n=true):wrap32 (bits .or .u32 (cut v n) (bits .xor .u32 4294967295 (bits .or .u32 (tp n) (tp n-1))))=sgn v n:=by
 have g:=hi_ge v n h
 have g0:=cut_lo v n
 have g1:=cut_wid v n
 have g2:=cut_hi v n
 unfold sgn
 rw[if_pos h,inv_mask,or_comm32]
 have hj:bits .or .u32 (4294967296-2^wid n) (cut v n)=4294967296-2^wid n+cut v n:=by
  rcases wid_cases n with h|h|h
  all_goals
   rw[h]at g1 ⊢
   exact bits_join .u32 32 (by decide) (fun m h0 h1=>by rw[IntKind.wrap_u32];omega) _ _ _ (by decide) (by decide) (by decide) g0 g1 (by simpa using g2)
 rw[hj]
 unfold wrap32
 rcases wid_cases n with h|h|h<;>rw[h]at g g1 ⊢ <;> simp at g g1 ⊢ <;> omega
theorem rsgn_neg(v n:Int)(h:hi (cut v n) n=false):wrap32 (cut v n)=sgn v n:=by
 have g:=hi_lt v n h
 have g0:=cut_lo v n
 unfold sgn
 rw[if_neg (by rw[h];decide)]
 unfold wrap32
 rcases wid_cases n with h|h|h<;>rw[h]at g<;>simp at g<;>omega
def ones(v:Int):Nat→Int
 |0=>0
 |k+1=>ones v k+v/2^k%2
theorem ones_lo(v:Int)(k:Nat):0≤ones v k:=by
 induction k with
 |zero=>exact Int.le_refl _
 |succ k ih=>unfold ones;have:0≤v/2^k%2:=Int.emod_nonneg _ (by decide);omega
theorem ones_hi(v:Int)(k:Nat):ones v k≤k:=by
 induction k with
 |zero=>exact Int.le_refl _
 |succ k ih=>unfold ones;have:v/2^k%2<2:=Int.emod_lt_of_pos _ (by decide);omega
theorem ones_par(v:Int):(ones v 8%2==0)=par v:=by
 unfold par
 rw[show(ones v 8)=(v%2+v/2%2+v/4%2+v/8%2+v/16%2+v/32%2+v/64%2+v/128%2)by simp[ones]]
 rfl
theorem and_one(v:Int)(h0:0≤v)(h1:v<4294967296):bits .and .u32 v 1=v%2:=
 bits_mask .u32 32 (by decide) (fun m h0 h1=>by rw[IntKind.wrap_u32];omega) 1 (by decide) v h0 (by simpa using h1)
theorem bit_div(v:Int)(k:Nat)(h0:0≤v)(h1:v<4294967296):bits .and .u32 (v/2^k) 1=v/2^k%2:=by
 have h2:0≤v/2^k:=Int.ediv_nonneg h0 (Int.le_of_lt (Int.pow_pos (by decide)))
 have h3:v/2^k≤v:=Int.ediv_le_self _ h0
 exact and_one _ h2 (by omega)
theorem bit_div_lo(v:Int)(k:Nat)(h0:0≤v)(h1:v<4294967296):0≤bits .and .u32 (v/2^k) 1:=by
 rw[bit_div v k h0 h1];exact Int.emod_nonneg _ (by decide)
theorem bit_div_hi(v:Int)(k:Nat)(h0:0≤v)(h1:v<4294967296):bits .and .u32 (v/2^k) 1≤1:=by
 rw[bit_div v k h0 h1];have:=Int.emod_lt_of_pos (v/2^k) (show(0:Int)<2 by decide);omega
theorem bsize{W W1:World}{o:Obj}(hb:Below (W.alloc o).heap.size (W.alloc o) W1):W.heap.size<W1.heap.size:=by
 have:=hb.size
 simp at this
 omega
theorem below_next{w W W1:World}{o:Obj}(h:Below w.heap.size w W)(hb:Below (W.alloc o).heap.size (W.alloc o) W1):Below w.heap.size w W1:=
 (h.alloc h.size _).trans (hb.mono (by have:=h.size;simp;omega))
theorem below_undrew{a w:World}(h:Below a.drew.heap.size a.drew w):Below a.heap.size a w:=⟨h.os,h.tape,h.output,h.size,h.block⟩
theorem below_last{w W:World}(h:Below w.heap.size w W)(o:Obj):Below w.heap.size w (W.alloc o):=h.alloc h.size o
/-! what lies in a block stays there,call by call -/
theorem cell_lt{W:World}{p:Addr}{x:Value}(h:W.cell? p=some x):p.block<W.heap.size:=by
 unfold World.cell? at h
 rcases Nat.lt_or_ge p.block W.heap.size with hl|hl
 ·exact hl
 ·rw[Array.getElem?_eq_none hl]at h
  simp at h
theorem cell_call{W W1:World}{p:Addr}{x:Value}(hb:Below W.heap.size W W1)(h:W.cell? p=some x):W1.cell? p=some x:=by
 rw[hb.cell (cell_lt h),h]
theorem signed_u32:IntKind.u32.signed=false:=rfl
theorem max_u32:IntKind.u32.max=4294967295:=by decide
theorem raddC_eq(a b n:Int)(c:Bool):((cut a n+cut b n+(c.toNat:Int))/2^(8*byt n).toNat != 0)=addC a b n c:=by
 rw[byt_wid,Int.toNat_natCast,←addC_eq,show min (wid n) 64=wid n by have:=wid_hi n;omega]
theorem raddO_pos'(a b n:Int)(c:Bool)(h:(hi (cut a n) n==hi (cut b n) n)=true):(bits .and .u32 (addV a b n c) (tp n) != bits .and .u32 (cut a n) (tp n))=addO a b n c:=by
 rw[tp_neq _ _ _ (cut_lo _ _) (cut_hi _ _) (addV_lo _ _ _ _) (addV_hi _ _ _ _)]
 unfold addO
 rw[h,Bool.true_and]
theorem addO_neg(a b n:Int)(c:Bool)(h:(hi (cut a n) n==hi (cut b n) n)=false):addO a b n c=false:=by
 unfold addO;rw[h,Bool.false_and]
theorem rsubO_pos(a b n:Int)(c:Bool)(h:(hi (cut a n) n != hi (cut b n) n)=true):(bits .and .u32 (subV a b n c) (tp n) != bits .and .u32 (cut a n) (tp n))=subO a b n c:=by
 rw[tp_neq _ _ _ (cut_lo _ _) (cut_hi _ _) (subV_lo _ _ _ _) (subV_hi _ _ _ _)]
 unfold subO
 rw[h,Bool.true_and]
theorem subO_neg(a b n:Int)(c:Bool)(h:(hi (cut a n) n != hi (cut b n) n)=false):subO a b n c=false:=by
 unfold subO;rw[h,Bool.false_and]
theorem isSome_setCell(w:World)(a b:Addr)(v:Value):((w.setCell a v).cell? b).isSome=(w.cell? b).isSome:=by
 by_cases h:a=b
 ·subst h
  cases hc:w.cell? a with
  |some u=>rw[World.cell?_setCell_same w a v hc];rfl
  |none=>
   cases hd:(w.setCell a v).cell? a with
   |none=>rfl
   |some u=>
    exfalso
    revert hc hd
    simp only[World.setCell,World.cell?,Array.getElem?_modify,↓reduceIte]
    cases w.heap[a.block]? with
    |none=>simp
    |some x=>
     cases x<;>simp
     cases hs:a.spot<;>simp
     intro hle;rw[Array.getElem?_eq_none (by simpa using hle)];simp
 ·rw[World.cell?_setCell_other w a b v h]
end
section
open Go.RowKit
set_option maxRecDepth 100000
def mulH(a b:Int):Int:=a*b/4294967296
def mulL(a b:Int):Int:=a*b%4294967296
def mulC(a b:Int):Bool:=a*b/4294967296 != 0
theorem mul_lo(a b:Int)(h0:0≤a)(k0:0≤b):0≤a*b:=Int.mul_nonneg h0 k0
theorem mul_hi(a b:Int)(h1:a<4294967296)(k0:0≤b)(k1:b<4294967296):a*b≤18446744065119617025:=by
 have h2:a*b≤4294967295*b:=Int.mul_le_mul_of_nonneg_right (by omega) k0
 omega
def imulP(a b:Int):Int:=wrap32 a*wrap32 b
def imulH(a b:Int):Int:=imulP a b%18446744073709551616/4294967296
def imulL(a b:Int):Int:=imulP a b%4294967296
def imulC(a b:Int):Bool:=decide (imulP a b < -2147483648) || decide (2147483647<imulP a b)
theorem wrap32_lo(a:Int):-2147483648≤wrap32 a:=by unfold wrap32;omega
theorem wrap32_hi(a:Int):wrap32 a≤2147483647:=by unfold wrap32;omega
theorem imul_lo(a b:Int):-4611686018427387904≤imulP a b:=by
 have a0:=wrap32_lo a
 have a1:=wrap32_hi a
 have b0:=wrap32_lo b
 have b1:=wrap32_hi b
 unfold imulP
 generalize wrap32 a=x at *
 generalize wrap32 b=y at *
 rcases Int.lt_or_le x 0 with h|h
 ·rcases Int.lt_or_le y 0 with g|g
  ·have:=Int.mul_nonneg (show 0≤-x by omega) (show 0≤-y by omega)
   rw[Int.neg_mul_neg]at this
   omega
  ·have h2:-x*y≤2147483648*y:=Int.mul_le_mul_of_nonneg_right (by omega) g
   rw[Int.neg_mul]at h2
   omega
 ·rcases Int.lt_or_le y 0 with g|g
  ·have h2:-y*x≤2147483648*x:=Int.mul_le_mul_of_nonneg_right (by omega) h
   rw[Int.neg_mul,Int.mul_comm y x]at h2
   omega
  ·have:=Int.mul_nonneg h g
   omega
theorem imul_hi(a b:Int):imulP a b≤4611686018427387904:=by
 have a0:=wrap32_lo a
 have a1:=wrap32_hi a
 have b0:=wrap32_lo b
 have b1:=wrap32_hi b
 unfold imulP
 generalize wrap32 a=x at *
 generalize wrap32 b=y at *
 rcases Int.lt_or_le x 0 with h|h
 ·rcases Int.lt_or_le y 0 with g|g
  ·have h2:-x*-y≤2147483648*-y:=Int.mul_le_mul_of_nonneg_right (by omega) (by omega)
   rw[Int.neg_mul_neg]at h2
   omega
  ·have:=Int.mul_nonneg (show 0≤-x by omega) g
   rw[Int.neg_mul]at this
   omega
 ·rcases Int.lt_or_le y 0 with g|g
  ·have:=Int.mul_nonneg h (show 0≤-y by omega)
   rw[Int.mul_neg]at this
   omega
  ·have h2:x*y≤2147483648*y:=Int.mul_le_mul_of_nonneg_right (by omega) g
   omega
def both(h l:Int):Int:=h*4294967296+l
theorem both_or(h l:Int)(h0:0≤h)(h1:h<4294967296)(l0:0≤l)(l1:l<4294967296):bits .or .u64 (h*4294967296) l=both h l:=
 bits_join .u64 64 (by decide) (fun m h0 h1=>by rw[IntKind.wrap_u64];omega) 32 _ _ (by omega) (by omega) (by simp;omega) l0 (by simpa using l1) (by simp;omega)
end
section
open Go.ChangeShapes Go.WideShapes Go.ChangeAt Go.RowKit
set_option maxRecDepth 100000
set_option maxHeartbeats 2000000
theorem rmul_any(fc fp fz fs fo fd:Bool)(a b:Int)(h0:0≤a)(h1:a<4294967296)(k0:0≤b)(k1:b<4294967296)(w:World):
  Calls Tryz.prog 136 #[.agg #[.bool fc,.bool fp,.bool fz,.bool fs,.bool fo,.bool fd],.int .u32 a,.int .u32 b] w fun e w'=>
  e=.returned (.tuple #[.int .u32 (mulH a b),.int .u32 (mulL a b),.agg #[.bool (mulC a b),.bool fp,.bool fz,.bool fs,.bool (mulC a b),.bool fd]])∧Below w.heap.size w w':=by
 have m0:=mul_lo a b h0 k0
 have m1:=mul_hi a b h1 k0 k1
 go_enter Tryz.func136,Tryz.ntmps136
 go_wp2
 go_region
 all_goals
  go_wp2
  have hB:=Below.refl w.heap.size w
  refine bodyPost_ret (v:=.tuple #[.int .u32 (mulH a b),.int .u32 (mulL a b),.agg #[.bool (mulC a b),.bool fp,.bool fz,.bool fs,.bool (mulC a b),.bool fd]]) (by simp[results,Tryz.results136,go_sem,mulH,mulL,mulC]) rfl ⟨rfl,?_⟩
  repeat' (first|(with_reducible exact hB)|(with_reducible refine Below.drew ?_)|(with_reducible refine Below.setCell ?_ ?_ _)|(with_reducible refine Below.alloc ?_ ?_ _)|(simp<;>omega))
set_option maxHeartbeats 4000000
theorem rimul_any(fc fp fz fs fo fd:Bool)(a b:Int)(w:World):
  Calls Tryz.prog 112 #[.agg #[.bool fc,.bool fp,.bool fz,.bool fs,.bool fo,.bool fd],.int .u32 a,.int .u32 b] w fun e w'=>
  e=.returned (.tuple #[.int .u32 (imulH a b),.int .u32 (imulL a b),.agg #[.bool (imulC a b),.bool fp,.bool fz,.bool fs,.bool (imulC a b),.bool fd]])∧Below w.heap.size w w':=by
 have a0:=wrap32_lo a
 have a1:=wrap32_hi a
 have b0:=wrap32_lo b
 have b1:=wrap32_hi b
 have p0:=imul_lo a b
 have p1:=imul_hi a b
 have hP:wrap32 a*wrap32 b=imulP a b:=rfl
 have hH:=Lib.hid (show imulH a b=imulP a b%18446744073709551616/4294967296 from rfl)
 have hL:=Lib.hid (show imulL a b=imulP a b%4294967296 from rfl)
 have hC:=Lib.hid (show imulC a b=(decide (imulP a b < -2147483648) || decide (2147483647<imulP a b))from rfl)
 generalize imulP a b=P at *
 by_cases c1:P < -2147483648
 ·have hCt:imulC a b=true:=by rw[hC.out];simp[c1]
  have hCT:=Lib.hid hCt
  clear hCt
  go_enter Tryz.func112,Tryz.ntmps112
  go_wp2
  go_region
  all_goals
   go_wp2
   have hB:=Below.refl w.heap.size w
   refine bodyPost_ret (v:=.tuple #[.int .u32 (imulH a b),.int .u32 (imulL a b),.agg #[.bool (imulC a b),.bool fp,.bool fz,.bool fs,.bool (imulC a b),.bool fd]]) (by rw[hH.out,hL.out,hCT.out];simp[results,Tryz.results112,go_sem];(try rw[IntKind.wrap_u64]);omega) rfl ⟨rfl,?_⟩
   repeat' (first|(with_reducible exact hB)|(with_reducible refine Below.drew ?_)|(with_reducible refine Below.setCell ?_ ?_ _)|(with_reducible refine Below.alloc ?_ ?_ _)|(simp<;>omega))
 ·by_cases c2:2147483647<P
  all_goals
   have hCT:=Lib.hid (show imulC a b=decide (2147483647<P)by rw[hC.out];simp[c1])
   simp only[c2,decide_true,decide_false]at hCT
   go_enter Tryz.func112,Tryz.ntmps112
   go_wp2
   go_region
   all_goals
    go_wp2
    have hB:=Below.refl w.heap.size w
    refine bodyPost_ret (v:=.tuple #[.int .u32 (imulH a b),.int .u32 (imulL a b),.agg #[.bool (imulC a b),.bool fp,.bool fz,.bool fs,.bool (imulC a b),.bool fd]]) (by rw[hH.out,hL.out,hCT.out];simp[results,Tryz.results112,go_sem];(try rw[IntKind.wrap_u64]);omega) rfl ⟨rfl,?_⟩
    repeat' (first|(with_reducible exact hB)|(with_reducible refine Below.drew ?_)|(with_reducible refine Below.setCell ?_ ?_ _)|(with_reducible refine Below.alloc ?_ ?_ _)|(simp<;>omega))
def divOk(hi_ by_:Int):Bool:=decide (hi_<by_)
def divQ(h l d:Int):Int:=if h<d then both h l/d else 0
def divR(h l d:Int):Int:=if h<d then both h l%d else 0
theorem both_q(h l d:Int)(h0:0≤h)(l0:0≤l)(l1:l<4294967296)(hd:h<d):0≤both h l/d∧both h l/d<4294967296:=by
 constructor
 ·exact Int.ediv_nonneg (by unfold both;omega) (by omega)
 ·refine Int.ediv_lt_of_lt_mul (by omega) ?_
  unfold both
  have:=Int.mul_le_mul_of_nonneg_right (show h+1≤d by omega) (show(0:Int)≤4294967296 by decide)
  rw[Int.mul_comm 4294967296 d]
  omega
theorem rdiv_any(h l d:Int)(h0:0≤h)(h1:h<4294967296)(l0:0≤l)(l1:l<4294967296)(k0:0≤d)(k1:d<4294967296)(w:World):
  Calls Tryz.prog 137 #[.int .u32 h,.int .u32 l,.int .u32 d] w fun e w'=>
  e=.returned (.tuple #[.int .u32 (divQ h l d),.int .u32 (divR h l d),.bool (divOk h d)])∧Below w.heap.size w w':=by
 by_cases hd:h<d
 ·have dz:(d==0)=false:=by rw[beq_eq_false_iff_ne];omega
  have n0:0≤both h l:=by unfold both;omega
  have n1:both h l≤18446744073709551615:=by unfold both;omega
  have hO:=both_or h l h0 h1 l0 l1
  obtain⟨q0,q1⟩:=both_q h l d h0 l0 l1 hd
  have r0:0≤both h l%d:=Int.emod_nonneg _ (by omega)
  have r1:both h l%d<4294967296:=by have:=Int.emod_lt_of_pos (both h l) (show 0<d by omega);omega
  have hQ:=Lib.hid (show divQ h l d=both h l/d by unfold divQ;rw[if_pos hd])
  have hR:=Lib.hid (show divR h l d=both h l%d by unfold divR;rw[if_pos hd])
  have hK:=Lib.hid (show divOk h d=true by unfold divOk;simp[hd])
  generalize both h l=N at *
  go_enter Tryz.func137,Tryz.ntmps137
  go_wp2
  go_region
  all_goals
   go_wp2
   refine bodyPost_ret (v:=.tuple #[.int .u32 (divQ h l d),.int .u32 (divR h l d),.bool (divOk h d)]) (by rw[hQ.out,hR.out,hK.out];simp[results,Tryz.results137,go_sem]) rfl ⟨rfl,?_⟩
   with_reducible exact(Below.refl _ _).drew
 ·have hQ:=Lib.hid (show divQ h l d=0 by unfold divQ;rw[if_neg hd])
  have hR:=Lib.hid (show divR h l d=0 by unfold divR;rw[if_neg hd])
  have hK:=Lib.hid (show divOk h d=false by unfold divOk;simp[hd])
  by_cases dz:d=0
  ·have dz':(d==0)=true:=by rw[beq_iff_eq];exact dz
   clear dz
   go_enter Tryz.func137,Tryz.ntmps137
   go_wp2
   refine bodyPost_ret (v:=.tuple #[.int .u32 (divQ h l d),.int .u32 (divR h l d),.bool (divOk h d)]) (by rw[hQ.out,hR.out,hK.out];simp[results,Tryz.results137,go_sem]) rfl ⟨rfl,Below.refl _ _⟩
  ·have dz':(d==0)=false:=by rw[beq_eq_false_iff_ne];exact dz
   clear dz
   go_enter Tryz.func137,Tryz.ntmps137
   go_wp2
   refine bodyPost_ret (v:=.tuple #[.int .u32 (divQ h l d),.int .u32 (divR h l d),.bool (divOk h d)]) (by rw[hQ.out,hR.out,hK.out];simp[results,Tryz.results137,go_sem]) rfl ⟨rfl,Below.refl _ _⟩
end
section
open Go.ChangeShapes Go.WideShapes Go.ChangeAt Go.RowKit
set_option maxRecDepth 100000
def idN(h l:Int):Int:=wrap64 (both h l)
def idOk(h l b:Int):Bool:=decide (wrap32 b≠0∧-2147483648≤(idN h l).tdiv (wrap32 b)∧(idN h l).tdiv (wrap32 b)≤2147483647)
def idQ(h l b:Int):Int:=if idOk h l b then(idN h l).tdiv (wrap32 b)%4294967296 else 0
def idR(h l b:Int):Int:=if idOk h l b then(idN h l).tmod (wrap32 b)%4294967296 else 0
theorem tdiv_abs(n d:Int):-(n.natAbs:Int)≤n.tdiv d∧n.tdiv d≤n.natAbs:=by
 have h:(n.tdiv d).natAbs≤n.natAbs:=by rw[Int.natAbs_tdiv];exact Nat.div_le_self _ _
 omega
theorem tdiv_64(n d:Int)(h0:-9223372036854775808≤n)(h1:n≤9223372036854775807)(hx:¬(n=-9223372036854775808∧d=-1)):-9223372036854775808≤n.tdiv d∧n.tdiv d≤9223372036854775807:=by
 have h:=tdiv_abs n d
 by_cases hn:n=-9223372036854775808
 ·have hd:d≠-1:=fun e=>hx ⟨hn,e⟩
  subst hn
  refine⟨by omega,?_⟩
  have e:((-9223372036854775808:Int).tdiv d).natAbs=9223372036854775808/d.natAbs:=by rw[Int.natAbs_tdiv];rfl
  by_cases h1:d.natAbs=1
  ·have:d=1:=by omega
   subst this
   decide
  ·have:9223372036854775808/d.natAbs≤9223372036854775807:=by
    by_cases h0:d.natAbs=0
    ·rw[h0];decide
    ·exact Nat.le_of_lt_succ (Nat.div_lt_self (by decide) (by omega))
   omega
 ·omega
theorem tmod_32(n d:Int)(h0:-2147483648≤d)(h1:d≤2147483647)(hd:d≠0):-2147483648<n.tmod d∧n.tmod d<2147483648:=by
 have h:(n.tmod d).natAbs<d.natAbs:=by
  rw[Int.natAbs_tmod];exact Nat.mod_lt _ (by omega)
 omega
theorem wrap64_lo(a:Int):-9223372036854775808≤wrap64 a:=by unfold wrap64;omega
theorem wrap64_hi(a:Int):wrap64 a≤9223372036854775807:=by unfold wrap64;omega
set_option maxHeartbeats 4000000
theorem ridiv_any(h l b:Int)(h0:0≤h)(h1:h<4294967296)(l0:0≤l)(l1:l<4294967296)(w:World):
  Calls Tryz.prog 138 #[.int .u32 h,.int .u32 l,.int .u32 b] w fun e w'=>
  e=.returned (.tuple #[.int .u32 (idQ h l b),.int .u32 (idR h l b),.bool (idOk h l b)])∧Below w.heap.size w w':=by
 have hO:=both_or h l h0 h1 l0 l1
 have n0:-9223372036854775808≤idN h l:=wrap64_lo _
 have n1:idN h l≤9223372036854775807:=wrap64_hi _
 have b0:=wrap32_lo b
 have b1:=wrap32_hi b
 have hN:wrap64 (both h l)=idN h l:=rfl
 have hK:=Lib.hid (show idOk h l b=decide (wrap32 b≠0∧-2147483648≤(idN h l).tdiv (wrap32 b)∧(idN h l).tdiv (wrap32 b)≤2147483647)from rfl)
 have hQ:=Lib.hid (show idQ h l b=if idOk h l b then(idN h l).tdiv (wrap32 b)%4294967296 else 0 from rfl)
 have hR:=Lib.hid (show idR h l b=if idOk h l b then(idN h l).tmod (wrap32 b)%4294967296 else 0 from rfl)
 obtain⟨D,hD⟩:∃D:Int,wrap32 b=D:=⟨_,rfl⟩
 rw[hD]at b0 b1 hK hQ hR
 generalize idN h l=N at *
 by_cases dz:D=0
 ·have dz':(D==0)=true:=by rw[beq_iff_eq];exact dz
  have hK':=Lib.hid (show idOk h l b=false by rw[hK.out];simp[dz])
  clear dz
  go_enter Tryz.func138,Tryz.ntmps138
  go_wp2
  refine bodyPost_ret (v:=.tuple #[.int .u32 (idQ h l b),.int .u32 (idR h l b),.bool (idOk h l b)]) (by rw[hQ.out,hR.out,hK'.out];simp[results,Tryz.results138,go_sem]) rfl ⟨rfl,Below.refl _ _⟩
 ·have dz':(D==0)=false:=by rw[beq_eq_false_iff_ne];exact dz
  by_cases hx:N=-9223372036854775808∧D=-1
  ·obtain⟨rfl,rfl⟩:=hx
   have hK':=Lib.hid (show idOk h l b=false by rw[hK.out];decide)
   go_enter Tryz.func138,Tryz.ntmps138
   go_wp2
   refine bodyPost_ret (v:=.tuple #[.int .u32 (idQ h l b),.int .u32 (idR h l b),.bool (idOk h l b)]) (by rw[hQ.out,hR.out,hK'.out];simp[results,Tryz.results138,go_sem]) rfl ⟨rfl,Below.refl _ _⟩
  ·obtain⟨t0,t1⟩:=tdiv_64 N D n0 n1 hx
   obtain⟨r0,r1⟩:=tmod_32 N D b0 b1 dz
   have hg:(N==-9223372036854775808)=false∨((N==-9223372036854775808)=true∧(D==-1)=false):=by
    by_cases hn:N=-9223372036854775808
    ·right;exact⟨by rw[beq_iff_eq];exact hn,by rw[beq_eq_false_iff_ne];exact fun e=>hx ⟨hn,e⟩⟩
    ·left;rw[beq_eq_false_iff_ne];exact hn
   clear hx
   by_cases c1:N.tdiv D < -2147483648
   ·have hK':=Lib.hid (show idOk h l b=false by rw[hK.out];simp;omega)
    rcases hg with hg|⟨hg,hg2⟩
    all_goals
     go_enter Tryz.func138,Tryz.ntmps138
     go_wp2
     go_region
     all_goals
      go_wp2
      refine bodyPost_ret (v:=.tuple #[.int .u32 (idQ h l b),.int .u32 (idR h l b),.bool (idOk h l b)]) (by rw[hQ.out,hR.out,hK'.out];simp[results,Tryz.results138,go_sem]) rfl ⟨rfl,(Below.refl _ _).drew⟩
   ·by_cases c2:2147483647<N.tdiv D
    ·have hK':=Lib.hid (show idOk h l b=false by rw[hK.out];simp;omega)
     rcases hg with hg|⟨hg,hg2⟩
     all_goals
      go_enter Tryz.func138,Tryz.ntmps138
      go_wp2
      go_region
      all_goals
       go_wp2
       refine bodyPost_ret (v:=.tuple #[.int .u32 (idQ h l b),.int .u32 (idR h l b),.bool (idOk h l b)]) (by rw[hQ.out,hR.out,hK'.out];simp[results,Tryz.results138,go_sem]) rfl ⟨rfl,(Below.refl _ _).drew⟩
    ·have hK':=Lib.hid (show idOk h l b=true by rw[hK.out];simp;omega)
     rcases hg with hg|⟨hg,hg2⟩
     all_goals
      go_enter Tryz.func138,Tryz.ntmps138
      go_wp2
      go_region
      all_goals
       go_wp2
       refine bodyPost_ret (v:=.tuple #[.int .u32 (idQ h l b),.int .u32 (idR h l b),.bool (idOk h l b)]) (by rw[hQ.out,hR.out,hK'.out];simp[results,Tryz.results138,go_sem]) rfl ⟨rfl,(Below.refl _ _).drew⟩
end
end Go.Proofs.YtmdncgfheeijaaaGreat
