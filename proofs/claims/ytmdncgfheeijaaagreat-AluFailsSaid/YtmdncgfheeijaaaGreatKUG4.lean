import Derived.Test.YtmdncgfheeijaaaGreatKUG3
namespace Go.Proofs.YtmdncgfheeijaaaGreat
section
open Go.RowKit
set_option maxRecDepth 100000
theorem below32{k:Nat}(h:k<32):k=0∨k=1∨k=2∨k=3∨k=4∨k=5∨k=6∨k=7∨k=8∨k=9∨k=10∨k=11∨k=12∨k=13∨k=14∨k=15∨k=16∨k=17∨k=18∨k=19∨k=20∨k=21∨k=22∨k=23∨k=24∨k=25∨k=26∨k=27∨k=28∨k=29∨k=30∨k=31:=by omega
def rolV(v:Int)(k:Nat):Int:=v%2^(32-k)*2^k+v/2^(32-k)
def rorV(v:Int)(k:Nat):Int:=v/2^k+v%2^k*2^(32-k)
def shlV(v:Int)(k:Nat):Int:=v*2^k%4294967296
def shrV(v:Int)(k:Nat):Int:=v/2^k
def sarV(v:Int)(k:Nat):Int:=wrap32 v/2^k%4294967296
theorem shl_low(v:Int)(k:Nat)(hk:k<32):v*2^k%4294967296=v%2^(32-k)*2^k:=by
 have e:(4294967296:Int)=2^(32-k)*2^k:=by
  rw[←Int.pow_add,show 32-k+k=32 by omega];rfl
 rw[e,Int.mul_comm v,Int.mul_comm (2^(32-k)),Int.mul_emod_mul_of_pos _ _ (Int.pow_pos (by decide)),Int.mul_comm]
theorem rol_lo(v:Int)(k:Nat)(h0:0≤v):0≤rolV v k:=by
 unfold rolV
 have h2:=Int.ediv_nonneg h0 (show(0:Int)≤2^(32-k)from Int.le_of_lt (Int.pow_pos (by decide)))
 have h3:0≤v%2^(32-k):=Int.emod_nonneg _ (Int.ne_of_gt (Int.pow_pos (by decide)))
 have h4:0≤v%2^(32-k)*2^k:=Int.mul_nonneg h3 (Int.le_of_lt (Int.pow_pos (by decide)))
 omega
theorem rol_hi(v:Int)(k:Nat)(hk:k<32)(h0:0≤v)(h1:v<4294967296):rolV v k<4294967296:=by
 unfold rolV
 rcases below32 hk with rfl|rfl|rfl|rfl|rfl|rfl|rfl|rfl|rfl|rfl|rfl|rfl|rfl|rfl|rfl|rfl|rfl|rfl|rfl|rfl|rfl|rfl|rfl|rfl|rfl|rfl|rfl|rfl|rfl|rfl|rfl|rfl<;>simp<;>omega
theorem ror_lo(v:Int)(k:Nat)(h0:0≤v):0≤rorV v k:=by
 unfold rorV
 have h2:=Int.ediv_nonneg h0 (show(0:Int)≤2^k from Int.le_of_lt (Int.pow_pos (by decide)))
 have h3:0≤v%2^k:=Int.emod_nonneg _ (Int.ne_of_gt (Int.pow_pos (by decide)))
 have h4:0≤v%2^k*2^(32-k):=Int.mul_nonneg h3 (Int.le_of_lt (Int.pow_pos (by decide)))
 omega
theorem ror_hi(v:Int)(k:Nat)(hk:k<32)(h0:0≤v)(h1:v<4294967296):rorV v k<4294967296:=by
 unfold rorV
 rcases below32 hk with rfl|rfl|rfl|rfl|rfl|rfl|rfl|rfl|rfl|rfl|rfl|rfl|rfl|rfl|rfl|rfl|rfl|rfl|rfl|rfl|rfl|rfl|rfl|rfl|rfl|rfl|rfl|rfl|rfl|rfl|rfl|rfl<;>simp<;>omega
theorem shl_lo(v:Int)(k:Nat):0≤shlV v k:=by unfold shlV;omega
theorem shl_hi(v:Int)(k:Nat):shlV v k<4294967296:=by unfold shlV;omega
theorem shr_lo(v:Int)(k:Nat)(h0:0≤v):0≤shrV v k:=Int.ediv_nonneg h0 (Int.le_of_lt (Int.pow_pos (by decide)))
theorem shr_hi(v:Int)(k:Nat)(h0:0≤v)(h1:v<4294967296):shrV v k<4294967296:=by
 have:shrV v k≤v:=Int.ediv_le_self _ h0
 omega
theorem sar_lo(v:Int)(k:Nat):0≤sarV v k:=by unfold sarV;omega
theorem sar_hi(v:Int)(k:Nat):sarV v k<4294967296:=by unfold sarV;omega
/-! one bit more -/
/-! what went out last -/
def shlC(v:Int)(k:Nat):Bool:=match k with|0=>false|i+1=>bt (shlV v i) 31
def shrC(v:Int)(k:Nat):Bool:=match k with|0=>false|i+1=>bt (shrV v i) 0
def sarC(v:Int)(k:Nat):Bool:=match k with|0=>false|i+1=>bt (sarV v i) 0
def rolC(v:Int)(k:Nat):Bool:=match k with|0=>false|i+1=>bt (rolV v (i+1)) 0
def rorC(v:Int)(k:Nat):Bool:=match k with|0=>false|i+1=>bt (rorV v (i+1)) 31
theorem bits31(x:Int)(h0:0≤x)(h1:x<4294967296):bits .and .u32 x 31=x%32:=
 bits_mask .u32 32 (by decide) (fun m h0 h1=>by rw[IntKind.wrap_u32];omega) 5 (by decide) x h0 (by simpa using h1)
/-! the five together -/
def isSh(op:Int):Bool:=decide (26≤op∧op≤30)
def kept(op:Int)(k:Nat):Bool:=k==0 || !isSh op
def shV(op v:Int)(k:Nat):Int:=if kept op k then v else if op=28 then shlV v k else if op=29 then shrV v k else if op=30 then sarV v k else if op=26 then rolV v k else rorV v k
def sfC(op v:Int)(k:Nat)(c:Bool):Bool:=if kept op k then c else if op=28 then shlC v k else if op=29 then shrC v k else if op=30 then sarC v k else if op=26 then rolC v k else rorC v k
def sfP(op v:Int)(k:Nat)(p:Bool):Bool:=if kept op k then p else if op=26∨op=27 then p else par (shV op v k)
def sfZ(op v:Int)(k:Nat)(z:Bool):Bool:=if kept op k then z else if op=26∨op=27 then z else zer (shV op v k)
def sfS(op v:Int)(k:Nat)(s:Bool):Bool:=if kept op k then s else if op=26∨op=27 then s else bt (shV op v k) 31
def sfO(op v:Int)(k:Nat)(o:Bool):Bool:=if kept op k then o else if op=28 then !(bt (shlV v k) 31==shlC v k)else if op=29 then bt v 31 else if op=30 then false else if op=26 then !(bt (rolV v k) 31==rolC v k)else bt (rorV v k) 31 != bt (rorV v k) 30
theorem shift_ways(op:Int)(k:Nat):kept op k=true∨(kept op k=false∧1≤k∧(op=26∨op=27∨op=28∨op=29∨op=30)):=by
 cases h:kept op k
 ·right
  unfold kept isSh at h
  simp at h
  exact⟨rfl,by omega,by omega⟩
 ·left;rfl
theorem kept_ways(op:Int)(k:Nat)(h:kept op k=true):k=0∨((op==26)=false∧(op==27)=false∧(op==28)=false∧(op==29)=false∧(op==30)=false):=by
 unfold kept isSh at h
 simp at h
 simp
 omega
/-! which bit goes out -/
theorem shl_out(v:Int)(k:Nat)(hk:k<31):shlC v (k+1)=bt v (31-k):=by
 show bt (shlV v k) 31=bt v (31-k)
 unfold shlV
 rw[shl_low v k (by omega)]
 unfold bt
 congr 1
 apply propext
 rcases below32 (k:=k) (by omega)with rfl|rfl|rfl|rfl|rfl|rfl|rfl|rfl|rfl|rfl|rfl|rfl|rfl|rfl|rfl|rfl|rfl|rfl|rfl|rfl|rfl|rfl|rfl|rfl|rfl|rfl|rfl|rfl|rfl|rfl|rfl|rfl<;>simp<;>omega
theorem shr_out(v:Int)(k:Nat):shrC v (k+1)=bt v k:=by
 show bt (shrV v k) 0=bt v k
 unfold shrV bt
 simp
theorem sar_out(v:Int)(k:Nat)(hk:k<31):sarC v (k+1)=bt v k:=by
 show bt (sarV v k) 0=bt v k
 unfold sarV bt wrap32
 congr 1
 apply propext
 rcases below32 (k:=k) (by omega)with rfl|rfl|rfl|rfl|rfl|rfl|rfl|rfl|rfl|rfl|rfl|rfl|rfl|rfl|rfl|rfl|rfl|rfl|rfl|rfl|rfl|rfl|rfl|rfl|rfl|rfl|rfl|rfl|rfl|rfl|rfl|rfl<;>simp<;>omega
/-! two shifts are one -/
theorem shV_lo(op v:Int)(k:Nat)(h0:0≤v):0≤shV op v k:=by
 unfold shV
 repeat' split
 all_goals first|exact h0|exact shl_lo _ _|exact shr_lo _ _ h0|exact sar_lo _ _|exact rol_lo _ _ h0|exact ror_lo _ _ h0
theorem shV_hi(op v:Int)(k:Nat)(hk:k<32)(h0:0≤v)(h1:v<4294967296):shV op v k<4294967296:=by
 unfold shV
 repeat' split
 all_goals first|exact h1|exact shl_hi _ _|exact shr_hi _ _ h0 h1|exact sar_hi _ _|exact rol_hi _ _ hk h0 h1|exact ror_hi _ _ hk h0 h1
/-! turns as two shifts laid together -/
theorem rol_is(v:Int)(k:Nat)(h1k:1≤k)(hk:k<32)(h0:0≤v)(h1:v<4294967296):bits .or .u32 (v*2^k%4294967296) (v/2^(32-k))=rolV v k:=by
 have hh:v/2^(32-k)<2^k:=by
  rcases below32 hk with rfl|rfl|rfl|rfl|rfl|rfl|rfl|rfl|rfl|rfl|rfl|rfl|rfl|rfl|rfl|rfl|rfl|rfl|rfl|rfl|rfl|rfl|rfl|rfl|rfl|rfl|rfl|rfl|rfl|rfl|rfl|rfl<;>simp<;>omega
 have hp:(2:Int)^k≤2147483648:=by
  rcases below32 hk with rfl|rfl|rfl|rfl|rfl|rfl|rfl|rfl|rfl|rfl|rfl|rfl|rfl|rfl|rfl|rfl|rfl|rfl|rfl|rfl|rfl|rfl|rfl|rfl|rfl|rfl|rfl|rfl|rfl|rfl|rfl|rfl<;>decide
 have hg:0≤v/2^(32-k):=Int.ediv_nonneg h0 (Int.le_of_lt (Int.pow_pos (by decide)))
 unfold rolV
 rw[←shl_low v k hk]
 refine bits_join .u32 32 (by decide) (fun m h0 h1=>by rw[IntKind.wrap_u32];omega) k _ _ (by omega) ?_ (by simp;omega) hg hh (by simp;omega)
 rw[shl_low v k hk]
 exact Int.mul_emod_left _ _
theorem ror_is(v:Int)(k:Nat)(h1k:1≤k)(hk:k<32)(h0:0≤v)(h1:v<4294967296):bits .or .u32 (v/2^k) (v*2^(32-k)%4294967296)=rorV v k:=by
 have hh:v/2^k<2^(32-k):=by
  rcases below32 hk with rfl|rfl|rfl|rfl|rfl|rfl|rfl|rfl|rfl|rfl|rfl|rfl|rfl|rfl|rfl|rfl|rfl|rfl|rfl|rfl|rfl|rfl|rfl|rfl|rfl|rfl|rfl|rfl|rfl|rfl|rfl|rfl<;>simp<;>omega
 have hp:v/2^k<4294967296:=shr_hi v k h0 h1
 have hg:0≤v/2^k:=shr_lo v k h0
 have hl:=shl_low v (32-k) (by omega)
 rw[show 32-(32-k)=k by omega]at hl
 unfold rorV
 rw[←hl,or_comm32,Int.add_comm]
 refine bits_join .u32 32 (by decide) (fun m h0 h1=>by rw[IntKind.wrap_u32];omega) (32-k) _ _ (by omega) ?_ (by simp;omega) hg hh (by simpa using hp)
 rw[hl]
 exact Int.mul_emod_left _ _
end
end Go.Proofs.YtmdncgfheeijaaaGreat
