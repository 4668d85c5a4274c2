import Derived.Laws.BitsAllLaws
import Derived.IntWalk
import Derived.BigQuiet
import Derived.Deep.QuietTactic
import Derived.Deep.DeepCutAuto
import Derived.Deep.RegionWith
import Derived.Test.YtlnahkkemjgjbaaGreatKNC
namespace Go.Proofs.YtlnahkkemjgjbaaGreat
open Go.ChangeShapes Go.WideShapes Go.ChangeAt Go.RowKit
theorem mfields_any (c:Int) (c0:0 ≤ c) (c1:c < 256) (w:World):Calls Tryz.prog 104 #[.int .u8 c] w fun e w'=>e=.returned (.tuple #[.int .i64 (c / 64),.int .i64 (c / 8 % 8),.int .i64 (c % 8)])∧w=w':=by
  have a1:=and7 (c / 8) (by omega) (by omega)
  have a2:=and7 c c0 c1
  go_enter Tryz.func104,Tryz.ntmps104
  go_wp2
  go_returns
  exact ⟨rfl,rfl⟩
theorem mmemory_any (b:Int) (w:World):Calls Tryz.prog 105 #[.int .i64 b] w fun e w'=>e=.returned (.agg #[.int .i64 3,.int .i64 0,.int .i64 b,.int .i64 (-1),.int .i64 1,.int .u32 0])∧w'=w.alloc (.cells #[.int .i64 3,.int .i64 0,.int .i64 b,.int .i64 (-1),.int .i64 1,.int .u32 0] 24):=by
  go_enter Tryz.func105,Tryz.ntmps105
  go_wp2
  go_returns
  exact ⟨rfl,rfl⟩
theorem mregister_any (r:Int) (w:World):Calls Tryz.prog 81 #[.int .i64 r] w fun e w'=>e=.returned (.agg #[.int .i64 1,.int .i64 r,.int .i64 (-1),.int .i64 (-1),.int .i64 1,.int .u32 0])∧w'=w.alloc (.cells #[.int .i64 1,.int .i64 r,.int .i64 (-1),.int .i64 (-1),.int .i64 1,.int .u32 0] 24):=by
  go_enter Tryz.func81,Tryz.ntmps81
  go_wp2
  go_returns
  exact ⟨rfl,rfl⟩
theorem mnumbered_yes (r:Int) (h0:0 ≤ r) (h7:r ≤ 7) (w:World):Calls Tryz.prog 80 #[.int .i64 r] w fun e w'=>e=.returned (.bool true)∧w=w':=by
  go_enter Tryz.func80,Tryz.ntmps80
  go_wp2
  go_ret
  simp
theorem mnumbered_any (r:Int) (w:World):Calls Tryz.prog 80 #[.int .i64 r] w fun e w'=>e=.returned (.bool (decide (0 ≤ r∧r ≤ 7)))∧w=w':=by
  have H:=Lib.hid (rfl:(decide (0 ≤ r∧r ≤ 7))=decide (0 ≤ r∧r ≤ 7))
  by_cases h0:0 ≤ r
  · by_cases h7:r ≤ 7
    · rw [show decide (0 ≤ r∧r ≤ 7)=true by simp [h0,h7]]
      exact mnumbered_yes r h0 h7 w
    · rw [show decide (0 ≤ r∧r ≤ 7)=false by simp [h7]]
      have e0:decide (0 ≤ r)=true:=by simpa using h0
      have e7:decide (r ≤ 7)=false:=by simpa using h7
      go_enter Tryz.func80,Tryz.ntmps80
      go_wp2
      go_ret
      simp
  · rw [show decide (0 ≤ r∧r ≤ 7)=false by simp [h0]]
    have e0:decide (0 ≤ r)=false:=by simpa using h0
    go_enter Tryz.func80,Tryz.ntmps80
    go_wp2
    go_ret
    simp
theorem madded_any (md base:Int) (m0:0 ≤ md) (m2:md ≤ 2) (w:World):Calls Tryz.prog 97 #[.int .i64 md,.int .i64 base] w fun e w'=>e=.returned (.int .i64 (more9 md base))∧w=w':=by
  have hc:md=0 ∨ md=1 ∨ md=2:=by omega
  rcases hc with rfl | rfl | rfl
  · by_cases h5:base=5
    · subst h5
      go_enter Tryz.func97,Tryz.ntmps97
      go_wp2
      go_ret
      exact ⟨rfl,rfl⟩
    · have hV:=Lib.hid (show more9 0 base=0 by unfold more9;simp [h5])
      have e5:(base == 5)=false:=by simpa using h5
      clear h5
      go_enter Tryz.func97,Tryz.ntmps97
      go_wp2
      go_ret
      exact ⟨by rw [hV.out];rfl,rfl⟩
  · go_enter Tryz.func97,Tryz.ntmps97
    go_wp2
    go_ret
    exact ⟨rfl,rfl⟩
  · go_enter Tryz.func97,Tryz.ntmps97
    go_wp2
    go_ret
    exact ⟨rfl,rfl⟩
theorem mpower_any (s:Int) (h:s=1 ∨ s=2 ∨ s=4 ∨ s=8) (w:World):Calls Tryz.prog 101 #[.int .i64 s] w fun e w'=>e=.returned (.int .i64 (log9 s))∧w=w':=by
  rcases h with rfl | rfl | rfl | rfl
  all_goals
    go_enter Tryz.func101,Tryz.ntmps101
    go_wp2
    go_ret
    exact ⟨rfl,rfl⟩
theorem i64_or_nat (a b:Nat) (ha:a < 9223372036854775808) (hb:b < 9223372036854775808):bits .or .i64 (a:Int) (b:Int)=((a ||| b:Nat):Int):=by
  have hx:a ||| b < 2 ^ 63:=Nat.or_lt_two_pow (by omega) (by omega)
  show IntKind.i64.wrap ((BitVec.ofInt 64 (a:Int) ||| BitVec.ofInt 64 (b:Int)).toNat:Int)=_
  rw [BitVec.toNat_or,ofInt_u64 a (by omega),ofInt_u64 b (by omega)]
  exact IntWalk.i64_in _ (by omega)
theorem or_add_i64 (k:Nat) (a b:Int) (a0:0 ≤ a) (a1:a < ((2 ^ k:Nat):Int)) (b0:0 ≤ b) (h:a+b * ((2 ^ k:Nat):Int) < 9223372036854775808):bits .or .i64 (b * ((2 ^ k:Nat):Int)) a=a+b * ((2 ^ k:Nat):Int):=by
  obtain ⟨x,rfl⟩:∃ x:Nat,a=(x:Int):=⟨a.toNat,by omega⟩
  obtain ⟨y,rfl⟩:∃ y:Nat,b=(y:Int):=⟨b.toNat,by omega⟩
  have e:(y:Int) * ((2 ^ k:Nat):Int)=((y * 2 ^ k:Nat):Int):=by push_cast;rfl
  rw [e] at h ⊢
  have hx:x < 2 ^ k:=by omega
  rw [i64_or_nat (y * 2 ^ k) x (by omega) (by omega)]
  have:=Nat.shiftLeft_add_eq_or_of_lt hx y
  rw [Nat.shiftLeft_eq] at this
  rw [← this]
  omega
theorem mjoined_any (a b c:Int) (a0:0 ≤ a) (a1:a < 4) (b0:0 ≤ b) (b1:b < 8) (c0:0 ≤ c) (c1:c < 8) (w:World):Calls Tryz.prog 82 #[.int .i64 a,.int .i64 b,.int .i64 c] w fun e w'=>e=.returned (.int .u8 (a * 64+b * 8+c))∧w=w':=by
  have o1:bits .or .i64 (a * 64) (b * 8)=b * 8+a * 64:=or_add_i64 6 (b * 8) a (by omega) (by show b * 8 < (64:Int);omega) a0 (by show b * 8+a * 64 < _;omega)
  have o2:bits .or .i64 (b * 8+a * 64) c=c+(b+a * 8) * 8:=by
    rw [show b * 8+a * 64=(b+a * 8) * 8 by omega]
    exact or_add_i64 3 c (b+a * 8) c0 (by show c < (8:Int);omega) (by omega) (by show c+(b+a * 8) * 8 < _;omega)
  have hV:=Lib.hid (show c+(b+a * 8) * 8=a * 64+b * 8+c by omega)
  go_enter Tryz.func82,Tryz.ntmps82
  go_wp2
  go_ret
  exact ⟨by rw [← hV.out];rfl,rfl⟩
theorem drew_alloc (w:World) (o:Obj):(w.alloc o).drew=w.drew.alloc o:=rfl
theorem mscaled_any (c:Int) (c0:0 ≤ c) (c1:c < 256) (w:World):Calls Tryz.prog 106 #[.int .u8 c] w fun e w'=>e=.returned (.agg #[.int .i64 3,.int .i64 0,.int .i64 (c % 8),.int .i64 (sibI c),.int .i64 (sibS c),.int .u32 0])∧∃ nq,w'=(((w.drewN nq).alloc (.cells #[.int .i64 3,.int .i64 0,.int .i64 (c % 8),.int .i64 (sibI c),.int .i64 (sibS c),.int .u32 0] 24)).alloc (.cells #[.int .i64 3,.int .i64 0,.int .i64 (c % 8),.int .i64 (-1),.int .i64 1,.int .u32 0] 24)).alloc (.cells #[.int .i64 3,.int .i64 0,.int .i64 (c % 8),.int .i64 (sibI c),.int .i64 (sibS c),.int .u32 0] 24):=by
  obtain ⟨q,hq⟩:∃ q,c / 64=q:=⟨_,rfl⟩
  obtain ⟨i,hi⟩:∃ i,c / 8 % 8=i:=⟨_,rfl⟩
  obtain ⟨b,hb⟩:∃ b,c % 8=b:=⟨_,rfl⟩
  have hq4:q=0 ∨ q=1 ∨ q=2 ∨ q=3:=by omega
  have HF:=mfields_any c c0 c1
  have hI:sibI c=if i=4 then -1 else i:=by unfold sibI;rw [hi]
  have hS:sibS c=if i=4 then 1 else scale9 q:=by unfold sibS;rw [hi,hq]
  rw [hI,hS,hb]
  rw [hq,hi,hb] at HF
  have HF:=Lib.hid HF
  clear hI hS hq hi hb
  by_cases h4:i=4
  · subst h4
    clear hq4
    go_enter Tryz.func106,Tryz.ntmps106
    go_wp2_with (first | (go_at_call 104;refine (HF.out _).mono ?_;rintro e w' ⟨rfl,rfl⟩) | (go_at_call 105;refine (mmemory_any _ _).mono ?_;rintro e w' ⟨rfl,rfl⟩))
    go_returns
    exact ⟨rfl,0,rfl⟩
  · rw [if_neg h4,if_neg h4]
    have e4:(i != 4)=true:=by simpa using h4
    clear h4
    rcases hq4 with rfl | rfl | rfl | rfl
    all_goals
      go_enter Tryz.func106,Tryz.ntmps106
      go_wp2_with (first | (go_at_call 104;refine (HF.out _).mono ?_;rintro e w' ⟨rfl,rfl⟩) | (go_at_call 105;refine (mmemory_any _ _).mono ?_;rintro e w' ⟨rfl,rfl⟩))
      go_region
      all_goals
        go_wp2
        go_returns
        exact ⟨rfl,1,rfl⟩
def lenF (L:Nat) (bs:Nat→Int):Nat :=
  if L=0 then 1 else if bs 0 / 64=3 then 1 else if bs 0 % 8 ≠ 4 then 1+more9 (bs 0 / 64) (bs 0 % 8) else if L=1 then 2 else 2+more9 (bs 0 / 64) (bs 1 % 8)
theorem more9_le (md base:Int):more9 md base ≤ 4:=by unfold more9;split <;> (try split) <;> omega
theorem lenF_le (L:Nat) (bs:Nat→Int):1 ≤ lenF L bs∧lenF L bs ≤ 6:=by
  have h1:=more9_le (bs 0 / 64) (bs 0 % 8)
  have h2:=more9_le (bs 0 / 64) (bs 1 % 8)
  unfold lenF
  split <;> (try split) <;> (try split) <;> (try split) <;> omega
theorem lenF_none {L:Nat} {bs:Nat→Int} (h:L < lenF L bs):rmF L bs=none:=by
  unfold lenF at h
  unfold rmF
  by_cases h0:L=0
  · rw [if_pos h0]
  · rw [if_neg h0] at h ⊢
    by_cases h3:bs 0 / 64=3
    · rw [if_pos h3] at h;omega
    · rw [if_neg h3] at h ⊢
      by_cases h4:bs 0 % 8=4
      · rw [if_neg (by omega)] at h
        rw [if_pos h4]
        by_cases h1:L=1
        · rw [if_pos (by omega)]
        · rw [if_neg h1] at h
          rw [if_neg (by omega),if_pos h]
      · rw [if_pos h4] at h
        rw [if_neg h4,if_pos h]
theorem mlength_any (v:Value) (L:Nat) (bs:Nat→Int) (hb:∀ i,0 ≤ bs i∧bs i < 256) (w:World) (hs:Slc .u8 w v L bs) (hL:L ≤ maxLen) :
    Calls Tryz.prog 103 #[v] w fun e w'=>e=.returned (.int .i64 (lenF L bs))∧w=w':=by
  unfold maxLen at hL
  by_cases hL0:L=0
  · have hV:=Lib.hid (show lenF L bs=1 by unfold lenF;rw [if_pos hL0])
    have hv:∃ a cap,v=.slice a 0 cap:=by subst hL0;exact hs.len
    obtain ⟨a,cap,rfl⟩:=hv
    clear hs hL0 hL
    go_enter Tryz.func103,Tryz.ntmps103
    go_wp2
    go_ret
    exact ⟨by rw [hV.out];rfl,rfl⟩
  · rcases hs with ⟨_,h⟩ | ⟨ad,cap,rfl,hl,hc⟩
    · omega
    have hc0:w.cell? ad=some (.int .u8 (bs 0)):=by simpa [Addr.add] using hc 0 (by omega)
    have i0:(0:Int) < (L:Int):=by omega
    have i0':0 < L:=by omega
    have e0:((L:Int) == 0)=false:=by simpa using hL0
    have HF:=mfields_any (bs 0) (hb 0).1 (hb 0).2
    have hmd:0 ≤ bs 0 / 64∧bs 0 / 64 ≤ 3:=by have:=hb 0;omega
    by_cases h3:bs 0 / 64=3
    · have hV:=Lib.hid (show lenF L bs=1 by unfold lenF;rw [if_neg hL0,if_pos h3])
      rw [h3] at HF
      have HF:=Lib.hid HF
      clear hc hb hL0 h3 hmd
      go_enter Tryz.func103,Tryz.ntmps103
      go_wp2_with (go_at_call 104;refine (HF.out _).mono ?_;rintro e w' ⟨rfl,rfl⟩)
      go_ret
      exact ⟨by rw [hV.out];rfl,rfl⟩
    · by_cases h4:bs 0 % 8=4
      · by_cases h1:L=1
        · have hV:=Lib.hid (show lenF L bs=2 by unfold lenF;rw [if_neg hL0,if_neg h3,if_neg (by omega),if_pos h1])
          rw [h4] at HF
          have HF:=Lib.hid HF
          have e3:(bs 0 / 64 == 3)=false:=by simpa using h3
          subst h1
          clear hc hb hL0 h3 hmd h4 e0
          go_enter Tryz.func103,Tryz.ntmps103
          go_wp2_with (go_at_call 104;refine (HF.out _).mono ?_;rintro e w' ⟨rfl,rfl⟩)
          go_ret
          exact ⟨by rw [hV.out];rfl,rfl⟩
        · have hV:=Lib.hid (show lenF L bs=2+more9 (bs 0 / 64) (bs 1 % 8) by unfold lenF;rw [if_neg hL0,if_neg h3,if_neg (by omega),if_neg h1])
          have HF1:=mfields_any (bs 1) (hb 1).1 (hb 1).2
          have HA:=madded_any (bs 0 / 64) (bs 1 % 8) hmd.1 (by omega)
          have hm:=more9_le (bs 0 / 64) (bs 1 % 8)
          rw [h4] at HF
          have HF:=Lib.hid HF
          have HF1:=Lib.hid HF1
          have HA:=Lib.hid HA
          have e3:(bs 0 / 64 == 3)=false:=by simpa using h3
          have e1:((L:Int) == 1)=false:=by simp;omega
          have hc1:w.cell? ⟨ad.block,ad.off+1,none⟩=some (.int .u8 (bs 1)):=by simpa [Addr.add] using hc 1 (by omega)
          have i1:(1:Int) < (L:Int):=by omega
          have i1':1 < L:=by omega
          clear hc hb hL0 h3 hmd h4 h1
          generalize bs 0 / 8 % 8=r0 at *
          generalize bs 1 % 8=b1 at *
          generalize bs 1 / 8 % 8=r1 at *
          generalize bs 1 / 64=q1 at *
          generalize bs 0 / 64=md at *
          generalize more9 md b1=M at *
          go_enter Tryz.func103,Tryz.ntmps103
          go_wp2_with (first | (go_at_call 104;first | ((with_reducible refine (HF.out _).mono ?_);rintro e w' ⟨rfl,rfl⟩) | ((with_reducible refine (HF1.out _).mono ?_);rintro e w' ⟨rfl,rfl⟩)) | (go_at_call 97;refine (HA.out _).mono ?_;rintro e w' ⟨rfl,rfl⟩))
          go_ret
          exact ⟨by rw [hV.out];go_num,rfl⟩
      · have hV:=Lib.hid (show lenF L bs=1+more9 (bs 0 / 64) (bs 0 % 8) by unfold lenF;rw [if_neg hL0,if_neg h3,if_pos h4])
        have HA:=madded_any (bs 0 / 64) (bs 0 % 8) hmd.1 (by omega)
        have hm:=more9_le (bs 0 / 64) (bs 0 % 8)
        have HF:=Lib.hid HF
        have HA:=Lib.hid HA
        have e3:(bs 0 / 64 == 3)=false:=by simpa using h3
        have e4:(bs 0 % 8 != 4)=true:=by simpa using h4
        clear hc hb hL0 h3 hmd h4
        generalize bs 0 / 8 % 8=r0 at *
        generalize bs 0 % 8=b1 at *
        generalize bs 0 / 64=md at *
        generalize more9 md b1=M at *
        go_enter Tryz.func103,Tryz.ntmps103
        go_wp2_with (first | (go_at_call 104;(with_reducible refine (HF.out _).mono ?_);rintro e w' ⟨rfl,rfl⟩) | (go_at_call 97;refine (HA.out _).mono ?_;rintro e w' ⟨rfl,rfl⟩))
        go_ret
        exact ⟨by rw [hV.out];go_num,rfl⟩
theorem mnumber_any (v:Value) (L:Nat) (bs:Nat→Int) (hb:∀ i,0 ≤ bs i∧bs i < 256) (w:World) (hs:Slc .u8 w v L bs) (hL:L ≤ 8) :
    Calls Tryz.prog 107 #[v] w fun e w'=>e=.returned (.int .u32 (disp9 L bs 0))∧∃ nq,w'=w.drewN nq:=by
  by_cases h1:L=1
  · subst h1
    rcases hs with ⟨_,h⟩ | ⟨ad,cap,rfl,hl,hc⟩
    · omega
    have hc0:w.cell? ad=some (.int .u8 (bs 0)):=by simpa [Addr.add] using hc 0 (by omega)
    have hV:=Lib.hid (show IntKind.i8.wrap (bs 0) % 4294967296=disp9 1 bs 0 by
      have:=hb 0
      show _=sx9 (bs 0)
      simp only [IntKind.wrap,IntKind.bits,IntKind.signed]
      simp
      unfold sx9
      split <;> omega)
    clear hc hb
    go_enter Tryz.func107,Tryz.ntmps107
    go_wp2
    go_ret
    exact ⟨by rw [← hV.out];rfl,0,rfl⟩
  · by_cases h4:L=4
    · subst h4
      rcases hs with ⟨_,h⟩ | ⟨ad,cap,rfl,hl,hc⟩
      · omega
      have c0:w.cell? ad=some (.int .u8 (bs 0)):=by simpa [Addr.add] using hc 0 (by omega)
      have c1:w.cell? ⟨ad.block,ad.off+1,none⟩=some (.int .u8 (bs 1)):=by simpa [Addr.add] using hc 1 (by omega)
      have c2:w.cell? ⟨ad.block,ad.off+2,none⟩=some (.int .u8 (bs 2)):=by simpa [Addr.add] using hc 2 (by omega)
      have c3:w.cell? ⟨ad.block,ad.off+3,none⟩=some (.int .u8 (bs 3)):=by simpa [Addr.add] using hc 3 (by omega)
      have b0:=hb 0
      have b1:=hb 1
      have b2:=hb 2
      have b3:=hb 3
      have hV:=Lib.hid (show bs 0+bs 1 * 256+bs 2 * 65536+bs 3 * 16777216=disp9 4 bs 0 by rfl)
      clear hc hb
      generalize bs 0=x0 at *
      generalize bs 1=x1 at *
      generalize bs 2=x2 at *
      generalize bs 3=x3 at *
      have w0:IntKind.u32.wrap x0=x0:=by rw [IntKind.wrap_u32];omega
      have w1:IntKind.u32.wrap x1=x1:=by rw [IntKind.wrap_u32];omega
      have w2:IntKind.u32.wrap x2=x2:=by rw [IntKind.wrap_u32];omega
      have w3:IntKind.u32.wrap x3=x3:=by rw [IntKind.wrap_u32];omega
      have s1:IntKind.u32.wrap (x1 * 256)=x1 * 256:=by rw [IntKind.wrap_u32];omega
      have s2:IntKind.u32.wrap (x2 * 65536)=x2 * 65536:=by rw [IntKind.wrap_u32];omega
      have s3:IntKind.u32.wrap (x3 * 16777216)=x3 * 16777216:=by rw [IntKind.wrap_u32];omega
      have o1:bits .or .u32 x0 (x1 * 256)=x0+x1 * 256:=or_add 8 x0 x1 b0.1 b0.2 b1.1 (by show x0+x1 * 256 < _;omega)
      have o2:bits .or .u32 (x0+x1 * 256) (x2 * 65536)=x0+x1 * 256+x2 * 65536:=or_add 16 _ x2 (by omega) (by show _ < (65536:Int);omega) b2.1 (by show _+x2 * 65536 < _;omega)
      have o3:bits .or .u32 (x0+x1 * 256+x2 * 65536) (x3 * 16777216)=x0+x1 * 256+x2 * 65536+x3 * 16777216:=or_add 24 _ x3 (by omega) (by show _ < (16777216:Int);omega) b3.1 (by show _+x3 * 16777216 < _;omega)
      clear b0 b1 b2 b3
      go_enter Tryz.func107,Tryz.ntmps107
      go_wp2_with fail
      go_quiet (fail)
      go_wp2_with fail
      go_ret
      exact ⟨by rw [← hV.out];rfl,_,rfl⟩
    · have hV:=Lib.hid (show disp9 L bs 0=0 by unfold disp9;rw [if_neg h1,if_neg h4])
      obtain ⟨a,cap,rfl⟩:=hs.len
      have e1:((L:Int) == 1)=false:=by simp;omega
      have e4:((L:Int) == 4)=false:=by simp;omega
      clear hs h1 h4
      go_enter Tryz.func107,Tryz.ntmps107
      go_wp2
      go_ret
      exact ⟨by rw [hV.out];rfl,0,rfl⟩
theorem sx9_wrap (d:Int):IntKind.i8.wrap d % 4294967296=sx9 (d % 256):=by
  simp only [IntKind.wrap,IntKind.bits,IntKind.signed]
  simp
  unfold sx9
  split <;> omega
theorem mshortest_any (o:Opd) (d0:0 ≤ o.disp) (d1:o.disp < 4294967296) (w:World):Calls Tryz.prog 94 #[opV o] w fun e w'=>e=.returned (.int .i64 (addM o))∧w'=w.alloc (.cells (opC o) 24):=by
  obtain ⟨kind,rg,base,index,scale,disp⟩:=o
  unfold opV opC
  simp only at d0 d1 ⊢
  by_cases hb:base=-1
  · subst hb
    have hV:=Lib.hid (show addM ⟨kind,rg,-1,index,scale,disp⟩=0 by unfold addM;simp)
    go_enter Tryz.func94,Tryz.ntmps94
    go_wp2
    go_ret
    exact ⟨by rw [hV.out];rfl,rfl⟩
  · have eb:(base == -1)=false:=by simpa using hb
    by_cases hd:disp=0
    · subst hd
      by_cases h5:base=5
      · subst h5
        have hV:=Lib.hid (show addM ⟨kind,rg,5,index,scale,0⟩=1 by unfold addM;simp;decide)
        clear hb
        go_enter Tryz.func94,Tryz.ntmps94
        go_wp2
        go_ret
        exact ⟨by rw [hV.out];rfl,rfl⟩
      · have hV:=Lib.hid (show addM ⟨kind,rg,base,index,scale,0⟩=0 by unfold addM;simp [hb,h5])
        have e5:(base != 5)=true:=by simpa using h5
        clear hb h5
        go_enter Tryz.func94,Tryz.ntmps94
        go_wp2
        go_ret
        exact ⟨by rw [hV.out];rfl,rfl⟩
    · have ed:(disp == 0)=false:=by simpa using hd
      by_cases hx:sx9 (disp % 256)=disp
      · have hV:=Lib.hid (show addM ⟨kind,rg,base,index,scale,disp⟩=1 by unfold addM;simp [hb,hd,hx])
        have ex:(disp == IntKind.i8.wrap disp % 4294967296)=true:=by rw [sx9_wrap,hx];simp
        clear hb hd hx
        go_enter Tryz.func94,Tryz.ntmps94
        go_wp2
        go_ret
        exact ⟨by rw [hV.out];rfl,rfl⟩
      · have hV:=Lib.hid (show addM ⟨kind,rg,base,index,scale,disp⟩=2 by unfold addM;simp [hb,hd,hx])
        have ex:(disp == IntKind.i8.wrap disp % 4294967296)=false:=by rw [sx9_wrap];simp;omega
        clear hb hd hx
        go_enter Tryz.func94,Tryz.ntmps94
        go_wp2
        go_ret
        exact ⟨by rw [hV.out];rfl,rfl⟩
theorem msecond_any (o:Opd) (base:Int) (hs:o.scale=1 ∨ o.scale=2 ∨ o.scale=4 ∨ o.scale=8) (i0:-1 ≤ o.index) (i1:o.index ≤ 7) (b0:0 ≤ base) (b1:base < 8) (w:World) :
    Calls Tryz.prog 95 #[opV o,.int .i64 base] w fun e w'=>e=.returned (.int .u8 (log9 o.scale * 64+(if o.index=-1 then 4 else o.index) * 8+base))∧w'=w.alloc (.cells (opC o) 24):=by
  obtain ⟨kind,rg,bs,index,scale,disp⟩:=o
  unfold opV opC
  simp only at hs i0 i1 ⊢
  have hl:=log9_ok scale hs
  have HP:=Lib.hid (mpower_any scale hs)
  clear hs
  generalize log9 scale=lg at *
  by_cases hi:index=-1
  · subst hi
    rw [if_pos rfl]
    have HJ:=Lib.hid (mjoined_any lg 4 base hl.1 (by omega) (by omega) (by omega) b0 b1)
    go_enter Tryz.func95,Tryz.ntmps95
    go_wp2_with (first | (go_at_call 101;refine (HP.out _).mono ?_;rintro e w' ⟨rfl,rfl⟩) | (go_at_call 82;refine (HJ.out _).mono ?_;rintro e w' ⟨rfl,rfl⟩))
    go_ret
    exact ⟨rfl,rfl⟩
  · rw [if_neg hi]
    have HJ:=Lib.hid (mjoined_any lg index base hl.1 (by omega) (by omega) (by omega) b0 b1)
    have ei:(index == -1)=false:=by simpa using hi
    clear hi
    go_enter Tryz.func95,Tryz.ntmps95
    go_wp2_with (first | (go_at_call 101;refine (HP.out _).mono ?_;rintro e w' ⟨rfl,rfl⟩) | (go_at_call 82;refine (HJ.out _).mono ?_;rintro e w' ⟨rfl,rfl⟩))
    go_ret
    exact ⟨rfl,rfl⟩
theorem mspread_any (v:Int) (v0:0 ≤ v) (v1:v < 4294967296) (w:World) :
    Calls Tryz.prog 96 #[.int .u32 v] w fun e w'=>e=.returned (.agg #[.int .u8 (v % 256),.int .u8 (v / 256 % 256),.int .u8 (v / 65536 % 256),.int .u8 (v / 16777216)])∧w'=w.alloc (.cells #[.int .u8 (v % 256),.int .u8 (v / 256 % 256),.int .u8 (v / 65536 % 256),.int .u8 (v / 16777216)] 116):=by
  go_enter Tryz.func96,Tryz.ntmps96
  go_wp2
  go_returns
  exact ⟨rfl,rfl⟩
theorem below_drN {B:Nat} {a w:World} (h:Below B a w) (n:Nat):Below B a (w.drewN n):=⟨h.os,h.tape,h.output,h.size,h.block⟩
theorem disp9_sh (k:Nat) (bs:Nat→Int) (n:Nat):disp9 k (fun i=>bs (n+i)) 0=disp9 k bs n:=by unfold disp9;simp
theorem add_pos (ad:Addr) (n:Nat) (h:n ≠ 0):ad.add n=⟨ad.block,ad.off+n,none⟩:=by unfold Addr.add;rw [if_neg h]
theorem slc_cut {k:IntKind} {w:World} {ad:Addr} {L:Nat} {bs:Nat→Int} (hc:∀ i,i < L→w.cell? (ad.add i)=some (.int k (bs i))) (s m c:Nat) (hm:m ≤ c) (hs:s+m ≤ L) (ho:s ≠ 0) (p:Addr) (hp:0 < m→p=⟨ad.block,ad.off+s,none⟩):Slc k w (.slice (some p) m c) m (fun i=>bs (s+i)) :=
  .inr ⟨p,c,rfl,hm,fun i hi=>by
    rw [hp (by omega),addr_add]
    have:=hc (s+i) (by omega)
    rw [add_pos _ _ (by omega)] at this
    rw [← this,Nat.add_assoc]⟩
def cutA (ad:Addr) (cap s:Nat):Addr:=if cap=s then ad else ad.add s
theorem slice_from (ad:Addr) (L cap s m:Nat) (h:s+m ≤ cap) (ks ks':Int) (e1:ks=s) (e2:ks'=s+m) (w:World) :
    (Instr.sliceAt 30 (.slice (some ad) L cap) (some (.int .i64 ks)) (some (.int .i64 ks')) none).run Tryz.prog w=.ok (.slice (some (cutA ad cap s)) m (cap - s)) w:=by
  have hE:Tryz.prog.elem 30=5:=by kernel_rfl
  have hz:(sizeOf (Tryz.prog.elem 30)).run Tryz.prog w=.ok 1 w:=by kernel_rfl
  have hu:Tryz.prog.underlying 30=some (.slice (Tryz.prog.elem 30)):=by rw [hE];exact Tryz.underlying30
  rw [run_sliceAt_slice w _ _ _ _ _ hu,run_slice_lh w _ _ _ _ hu .i64 .i64 ks ks' (by omega) (by omega) (by omega),hz]
  subst e1 e2
  simp only [Result.andThen,sliced,Option.map_some,Nat.mul_one,Int.toNat_natCast]
  rw [show ((s:Int)+(m:Int)).toNat=s+m by omega,show s+m - s=m by omega]
  unfold cutA
  split <;> simp_all
set_option maxRecDepth 100000
set_option maxHeartbeats 1000000
theorem mrread_c (L:Nat) (bs:Nat→Int) (hb:∀ i,0 ≤ bs i∧bs i < 256) (ad:Addr) (cap:Nat) (w:World) (hl:L ≤ cap) (hc:∀ i,i < L→w.cell? (ad.add i)=some (.int .u8 (bs i))) (hL:L ≤ maxLen) (hL0:1 ≤ L) (h3:bs 0 / 64 ≠ 3) (h4:bs 0 % 8 ≠ 4) (hn:1+more9 (bs 0 / 64) (bs 0 % 8) ≤ L) :
    Calls Tryz.prog 100 #[.slice (some ad) L cap] w fun e w'=>e=.returned (.tuple #[.agg #[.int .i64 3,.int .i64 0,.int .i64 (base9 (bs 0 / 64) (bs 0 % 8)),.int .i64 (-1),.int .i64 1,.int .u32 (disp9 (more9 (bs 0 / 64) (bs 0 % 8)) bs 1)],.int .i64 (bs 0 / 8 % 8),.int .i64 (1+more9 (bs 0 / 64) (bs 0 % 8):Nat),.int .i64 0])∧Below w.heap.size w w':=by
  have hc0:w.cell? ad=some (.int .u8 (bs 0)):=by simpa [Addr.add] using hc 0 (by omega)
  have hs:Slc .u8 w (.slice (some ad) L cap) L bs:=.inr ⟨ad,cap,rfl,hl,hc⟩
  have HL:=fun (u:World) (hu:Below w.heap.size w u)=>mlength_any _ L bs hb u (hs.below hu) hL
  rw [show lenF L bs=1+more9 (bs 0 / 64) (bs 0 % 8) by unfold lenF;rw [if_neg (by omega),if_neg h3,if_pos h4]] at HL
  clear hs
  have HF:=mfields_any (bs 0) (hb 0).1 (hb 0).2
  have HM:=mmemory_any (bs 0 % 8)
  have hm:=more9_le (bs 0 / 64) (bs 0 % 8)
  have e3:(bs 0 / 64 == 3)=false:=by simpa using h3
  have e4:(bs 0 % 8 == 4)=false:=by simpa using h4
  unfold maxLen at hL
  generalize more9 (bs 0 / 64) (bs 0 % 8)=M at *
  have HS:=(fun (u:World) (hu:Below w.heap.size w u)=>mnumber_any _ M _ (fun i=>hb (1+i)) u ((slc_cut hc 1 M (cap - 1) (by omega) (by omega) (by omega) (cutA ad cap 1) (fun hm=>by unfold cutA;rw [if_neg (by omega)];exact add_pos _ _ (by omega))).below hu) (by omega))
  rw [disp9_sh] at HS
  have HS:=Lib.hid HS
  have HC:=Lib.hid hc
  have hA:∀ o,(w.alloc o).cell? ad=some (.int .u8 (bs 0)):=fun o=>cell_alloc hc0
  clear hc hb h3 h4
  generalize hmd:bs 0 / 64=md at *
  generalize hrm:bs 0 % 8=rm at *
  generalize hrg:bs 0 / 8 % 8=rg at *
  clear hmd hrm hrg
  obtain ⟨n,hnn⟩:∃ n,n=1+M:=⟨_,rfl⟩
  have HL:=Lib.hid HL
  have HF:=Lib.hid HF
  have HM:=Lib.hid HM
  have i0:(0:Int) < (L:Int):=by omega
  have i0':0 < L:=by omega
  have eL:decide ((L:Int) < ((1+M:Nat):Int))=false:=by simp;omega
  have eL':decide (L < 1+M)=false:=by simp;omega
  have q1:(1:Int) ≤ ((1+M:Nat):Int):=by omega
  have q2:((1+M:Nat):Int) ≤ (cap:Int):=by omega
  have hsl:=fun u=>slice_from ad L cap 1 M (by omega) 1 (1+(M:Int)) rfl rfl u
  have HR:=Lib.hid (show (1+(M:Int))=((1+M:Nat):Int) by omega)
  by_cases h5:md=0∧rm=5
  · obtain ⟨rfl,rfl⟩:=h5
    rw [show base9 0 5=-1 by rfl]
    clear e3 e4
    go_enter Tryz.func100,Tryz.ntmps100
    go_wp2_with (first | (go_at_call 103;(with_reducible refine (HL.out _ ((Below.refl _ _).alloc (Nat.le_refl _) _)).mono ?_);rintro e w' ⟨rfl,rfl⟩) | (go_at_call 104;refine (HF.out _).mono ?_;rintro e w' ⟨rfl,rfl⟩))
    go_region_with (go_at_call 105;(with_reducible refine (HM.out _).mono ?_);rintro e w' ⟨rfl,rfl⟩)
    all_goals
      go_wp2_with (go_at_call 107;(with_reducible refine (HS.out _ (by repeat (first | exact Below.refl _ _ | (with_reducible refine Below.drew ?_) | (with_reducible refine below_last ?_ _)))).mono ?_);rintro e w' ⟨rfl,nq,rfl⟩;simp only [drew_alloc,drewN_alloc];have hsz:(w.drew.drewN nq).heap.size=w.heap.size:=drewN_size w.drew nq;have HU:=Lib.hid (below_drN (Below.refl w.heap.size w).drew nq);rw [← hsz];clear hsz;generalize w.drew.drewN nq=u2 at HU ⊢)
      go_returns
      refine ⟨by rw [HR.out],?_⟩
      repeat (first | exact HU.out | (with_reducible refine below_last ?_ _))
  · rw [show base9 md rm=rm by unfold base9;rw [if_neg h5]]
    by_cases hm0:md=0
    · subst hm0
      have e5:(rm == 5)=false:=by simp at h5;simpa using h5
      clear h5 e3
      go_enter Tryz.func100,Tryz.ntmps100
      go_wp2_with (first | (go_at_call 103;(with_reducible refine (HL.out _ ((Below.refl _ _).alloc (Nat.le_refl _) _)).mono ?_);rintro e w' ⟨rfl,rfl⟩) | (go_at_call 104;refine (HF.out _).mono ?_;rintro e w' ⟨rfl,rfl⟩))
      go_region_with (go_at_call 105;(with_reducible refine (HM.out _).mono ?_);rintro e w' ⟨rfl,rfl⟩)
      all_goals
        go_wp2_with (go_at_call 107;(with_reducible refine (HS.out _ (by repeat (first | exact Below.refl _ _ | (with_reducible refine Below.drew ?_) | (with_reducible refine below_last ?_ _)))).mono ?_);rintro e w' ⟨rfl,nq,rfl⟩;simp only [drew_alloc,drewN_alloc];have hsz:(w.drew.drewN nq).heap.size=w.heap.size:=drewN_size w.drew nq;have HU:=Lib.hid (below_drN (Below.refl w.heap.size w).drew nq);rw [← hsz];clear hsz;generalize w.drew.drewN nq=u2 at HU ⊢)
        go_returns
        refine ⟨by rw [HR.out],?_⟩
        repeat (first | exact HU.out | (with_reducible refine below_last ?_ _))
    · have e0:(md == 0)=false:=by simpa using hm0
      clear hm0 h5
      go_enter Tryz.func100,Tryz.ntmps100
      go_wp2_with (first | (go_at_call 103;(with_reducible refine (HL.out _ ((Below.refl _ _).alloc (Nat.le_refl _) _)).mono ?_);rintro e w' ⟨rfl,rfl⟩) | (go_at_call 104;refine (HF.out _).mono ?_;rintro e w' ⟨rfl,rfl⟩))
      go_region_with (go_at_call 105;(with_reducible refine (HM.out _).mono ?_);rintro e w' ⟨rfl,rfl⟩)
      all_goals
        go_wp2_with (go_at_call 107;(with_reducible refine (HS.out _ (by repeat (first | exact Below.refl _ _ | (with_reducible refine Below.drew ?_) | (with_reducible refine below_last ?_ _)))).mono ?_);rintro e w' ⟨rfl,nq,rfl⟩;simp only [drew_alloc,drewN_alloc];have hsz:(w.drew.drewN nq).heap.size=w.heap.size:=drewN_size w.drew nq;have HU:=Lib.hid (below_drN (Below.refl w.heap.size w).drew nq);rw [← hsz];clear hsz;generalize w.drew.drewN nq=u2 at HU ⊢)
        go_returns
        refine ⟨by rw [HR.out],?_⟩
        repeat (first | exact HU.out | (with_reducible refine below_last ?_ _))
set_option maxHeartbeats 2000000
theorem mrread_d (L:Nat) (bs:Nat→Int) (hb:∀ i,0 ≤ bs i∧bs i < 256) (ad:Addr) (cap:Nat) (w:World) (hl:L ≤ cap) (hc:∀ i,i < L→w.cell? (ad.add i)=some (.int .u8 (bs i))) (hL:L ≤ maxLen) (h3:bs 0 / 64 ≠ 3) (h4:bs 0 % 8=4) (hn:2+more9 (bs 0 / 64) (bs 1 % 8) ≤ L) :
    Calls Tryz.prog 100 #[.slice (some ad) L cap] w fun e w'=>e=.returned (.tuple #[.agg #[.int .i64 3,.int .i64 0,.int .i64 (base9 (bs 0 / 64) (bs 1 % 8)),.int .i64 (sibI (bs 1)),.int .i64 (sibS (bs 1)),.int .u32 (disp9 (more9 (bs 0 / 64) (bs 1 % 8)) bs 2)],.int .i64 (bs 0 / 8 % 8),.int .i64 (2+more9 (bs 0 / 64) (bs 1 % 8):Nat),.int .i64 0])∧Below w.heap.size w w':=by
  have hc0:w.cell? ad=some (.int .u8 (bs 0)):=by simpa [Addr.add] using hc 0 (by omega)
  have hs:Slc .u8 w (.slice (some ad) L cap) L bs:=.inr ⟨ad,cap,rfl,hl,hc⟩
  have HL:=fun (u:World) (hu:Below w.heap.size w u)=>mlength_any _ L bs hb u (hs.below hu) hL
  rw [show lenF L bs=2+more9 (bs 0 / 64) (bs 1 % 8) by unfold lenF;rw [if_neg (by omega),if_neg h3,if_neg (by omega),if_neg (by omega)]] at HL
  clear hs
  have HF:=mfields_any (bs 0) (hb 0).1 (hb 0).2
  rw [h4] at HF
  have HM:=mmemory_any 4
  have HX:=mscaled_any (bs 1) (hb 1).1 (hb 1).2
  have hm:=more9_le (bs 0 / 64) (bs 1 % 8)
  have e3:(bs 0 / 64 == 3)=false:=by simpa using h3
  unfold maxLen at hL
  generalize more9 (bs 0 / 64) (bs 1 % 8)=M at *
  have HS:=(fun (u:World) (hu:Below w.heap.size w u)=>mnumber_any _ M _ (fun i=>hb (2+i)) u ((slc_cut hc 2 M (cap - 2) (by omega) (by omega) (by omega) (cutA ad cap 2) (fun hm=>by unfold cutA;rw [if_neg (by omega)];exact add_pos _ _ (by omega))).below hu) (by omega))
  rw [disp9_sh] at HS
  have HS:=Lib.hid HS
  have hA:∀ o,(w.alloc o).cell? ad=some (.int .u8 (bs 0)):=fun o=>cell_alloc hc0
  have hc1:w.cell? ⟨ad.block,ad.off+1,none⟩=some (.int .u8 (bs 1)):=by rw [← hc 1 (by omega)];rfl
  have hA1:∀ o1 o2 o3,(((w.alloc o1).alloc o2).alloc o3).cell? ⟨ad.block,ad.off+1,none⟩=some (.int .u8 (bs 1)):=fun o1 o2 o3=>cell_alloc (cell_alloc (cell_alloc hc1))
  clear hc hb h3 h4
  generalize hmd:bs 0 / 64=md at *
  generalize hrm:bs 1 % 8=rm at *
  generalize hrg:bs 0 / 8 % 8=rg at *
  generalize sibI (bs 1)=sI at *
  generalize sibS (bs 1)=sS at *
  clear hmd hrm hrg
  have HL:=Lib.hid HL
  have HF:=Lib.hid HF
  have HM:=Lib.hid HM
  have HX:=Lib.hid HX
  have i0:(0:Int) < (L:Int):=by omega
  have i0':0 < L:=by omega
  have i1:(1:Int) < (L:Int):=by omega
  have i1':1 < L:=by omega
  have eL:decide ((L:Int) < ((2+M:Nat):Int))=false:=by simp;omega
  have eL':decide (L < 2+M)=false:=by simp;omega
  have q1:(1:Int) ≤ ((2+M:Nat):Int):=by omega
  have q2:((2+M:Nat):Int) ≤ (cap:Int):=by omega
  have hsl:=fun u=>slice_from ad L cap 1 (1+M) (by omega) 1 (2+(M:Int)) rfl (by omega) u
  have hsl2:=fun u=>slice_from ad L cap 2 M (by omega) 2 (2+(M:Int)) rfl rfl u
  have HR:=Lib.hid (show (2+(M:Int))=((2+M:Nat):Int) by omega)
  by_cases h5:md=0∧rm=5
  · obtain ⟨rfl,rfl⟩:=h5
    rw [show base9 0 5=-1 by rfl]
    clear e3
    go_enter Tryz.func100,Tryz.ntmps100
    go_wp2_with (first | (go_at_call 103;(with_reducible refine (HL.out _ ((Below.refl _ _).alloc (Nat.le_refl _) _)).mono ?_);rintro e w' ⟨rfl,rfl⟩) | (go_at_call 104;refine (HF.out _).mono ?_;rintro e w' ⟨rfl,rfl⟩))
    go_region_with (go_at_call 105;(with_reducible refine (HM.out _).mono ?_);rintro e w' ⟨rfl,rfl⟩)
    all_goals
      go_wp2_with fail
      go_region_with (go_at_call 106;(with_reducible refine (HX.out _).mono ?_);rintro e w' ⟨rfl,nq,rfl⟩;simp only [drew_alloc,drewN_alloc];have hsz:(w.drew.drew.drewN nq).heap.size=w.heap.size:=drewN_size w.drew.drew nq;have HU:=Lib.hid (below_drN (Below.refl w.heap.size w).drew.drew nq);rw [← hsz];clear hsz;generalize w.drew.drew.drewN nq=u2 at HU ⊢)
      go_wp2_with (go_at_call 107;(with_reducible refine (HS.out _ (by repeat (first | exact HU.out | exact Below.refl _ _ | (with_reducible refine Below.drew ?_) | (with_reducible refine below_last ?_ _)))).mono ?_);rintro e w' ⟨rfl,nq2,rfl⟩;simp only [drewN_alloc];have hsz:(u2.drewN nq2).heap.size=u2.heap.size:=drewN_size u2 nq2;have HW:=Lib.hid (below_drN HU.out nq2);rw [← hsz];clear hsz;generalize u2.drewN nq2=u3 at HW ⊢)
      go_returns
      refine ⟨by rw [HR.out],?_⟩
      repeat (first | exact HW.out | (with_reducible refine below_last ?_ _))
  · rw [show base9 md rm=rm by unfold base9;rw [if_neg h5]]
    by_cases hm0:md=0
    · subst hm0
      have e5:(rm == 5)=false:=by simp at h5;simpa using h5
      clear h5 e3
      go_enter Tryz.func100,Tryz.ntmps100
      go_wp2_with (first | (go_at_call 103;(with_reducible refine (HL.out _ ((Below.refl _ _).alloc (Nat.le_refl _) _)).mono ?_);rintro e w' ⟨rfl,rfl⟩) | (go_at_call 104;refine (HF.out _).mono ?_;rintro e w' ⟨rfl,rfl⟩))
      go_region_with (go_at_call 105;(with_reducible refine (HM.out _).mono ?_);rintro e w' ⟨rfl,rfl⟩)
      all_goals
        go_wp2_with fail
        go_region_with (go_at_call 106;(with_reducible refine (HX.out _).mono ?_);rintro e w' ⟨rfl,nq,rfl⟩;simp only [drew_alloc,drewN_alloc];have hsz:(w.drew.drew.drewN nq).heap.size=w.heap.size:=drewN_size w.drew.drew nq;have HU:=Lib.hid (below_drN (Below.refl w.heap.size w).drew.drew nq);rw [← hsz];clear hsz;generalize w.drew.drew.drewN nq=u2 at HU ⊢)
        go_wp2_with (go_at_call 107;(with_reducible refine (HS.out _ (by repeat (first | exact HU.out | exact Below.refl _ _ | (with_reducible refine Below.drew ?_) | (with_reducible refine below_last ?_ _)))).mono ?_);rintro e w' ⟨rfl,nq2,rfl⟩;simp only [drewN_alloc];have hsz:(u2.drewN nq2).heap.size=u2.heap.size:=drewN_size u2 nq2;have HW:=Lib.hid (below_drN HU.out nq2);rw [← hsz];clear hsz;generalize u2.drewN nq2=u3 at HW ⊢)
        go_returns
        refine ⟨by rw [HR.out],?_⟩
        repeat (first | exact HW.out | (with_reducible refine below_last ?_ _))
    · have e0:(md == 0)=false:=by simpa using hm0
      clear hm0 h5
      go_enter Tryz.func100,Tryz.ntmps100
      go_wp2_with (first | (go_at_call 103;(with_reducible refine (HL.out _ ((Below.refl _ _).alloc (Nat.le_refl _) _)).mono ?_);rintro e w' ⟨rfl,rfl⟩) | (go_at_call 104;refine (HF.out _).mono ?_;rintro e w' ⟨rfl,rfl⟩))
      go_region_with (go_at_call 105;(with_reducible refine (HM.out _).mono ?_);rintro e w' ⟨rfl,rfl⟩)
      all_goals
        go_wp2_with fail
        go_region_with (go_at_call 106;(with_reducible refine (HX.out _).mono ?_);rintro e w' ⟨rfl,nq,rfl⟩;simp only [drew_alloc,drewN_alloc];have hsz:(w.drew.drew.drewN nq).heap.size=w.heap.size:=drewN_size w.drew.drew nq;have HU:=Lib.hid (below_drN (Below.refl w.heap.size w).drew.drew nq);rw [← hsz];clear hsz;generalize w.drew.drew.drewN nq=u2 at HU ⊢)
        go_wp2_with (go_at_call 107;(with_reducible refine (HS.out _ (by repeat (first | exact HU.out | exact Below.refl _ _ | (with_reducible refine Below.drew ?_) | (with_reducible refine below_last ?_ _)))).mono ?_);rintro e w' ⟨rfl,nq2,rfl⟩;simp only [drewN_alloc];have hsz:(u2.drewN nq2).heap.size=u2.heap.size:=drewN_size u2 nq2;have HW:=Lib.hid (below_drN HU.out nq2);rw [← hsz];clear hsz;generalize u2.drewN nq2=u3 at HW ⊢)
        go_returns
        refine ⟨by rw [HR.out],?_⟩
        repeat (first | exact HW.out | (with_reducible refine below_last ?_ _))
theorem mrread_b (L:Nat) (bs:Nat→Int) (hb:∀ i,0 ≤ bs i∧bs i < 256) (ad:Addr) (cap:Nat) (w:World) (hl:L ≤ cap) (hc:∀ i,i < L→w.cell? (ad.add i)=some (.int .u8 (bs i))) (hL:L ≤ maxLen) (hL0:1 ≤ L) (h3:bs 0 / 64=3) :
    Calls Tryz.prog 100 #[.slice (some ad) L cap] w fun e w'=>e=.returned (.tuple #[.agg #[.int .i64 1,.int .i64 (bs 0 % 8),.int .i64 (-1),.int .i64 (-1),.int .i64 1,.int .u32 0],.int .i64 (bs 0 / 8 % 8),.int .i64 1,.int .i64 0])∧Below w.heap.size w w':=by
  have hc0:w.cell? ad=some (.int .u8 (bs 0)):=by simpa [Addr.add] using hc 0 (by omega)
  have hs:Slc .u8 w (.slice (some ad) L cap) L bs:=.inr ⟨ad,cap,rfl,hl,hc⟩
  have HL:=fun (u:World) (hu:Below w.heap.size w u)=>mlength_any _ L bs hb u (hs.below hu) hL
  rw [show lenF L bs=1 by unfold lenF;rw [if_neg (by omega),if_pos h3]] at HL
  clear hs
  have HF:=mfields_any (bs 0) (hb 0).1 (hb 0).2
  rw [h3] at HF
  have HM:=mmemory_any (bs 0 % 8)
  have HX:=mregister_any (bs 0 % 8)
  unfold maxLen at hL
  have HS:=(fun (u:World) (hu:Below w.heap.size w u)=>mnumber_any _ 0 _ (fun i=>hb (1+i)) u ((slc_cut hc 1 0 (cap - 1) (by omega) (by omega) (by omega) (cutA ad cap 1) (fun hm=>by omega)).below hu) (by omega))
  rw [show disp9 0 (fun i=>bs (1+i)) 0=0 from rfl] at HS
  have HS:=Lib.hid HS
  have hA:∀ o,(w.alloc o).cell? ad=some (.int .u8 (bs 0)):=fun o=>cell_alloc hc0
  clear hc hb h3
  generalize hrm:bs 0 % 8=rm at *
  generalize hrg:bs 0 / 8 % 8=rg at *
  clear hrm hrg
  have HL:=Lib.hid HL
  have HF:=Lib.hid HF
  have HM:=Lib.hid HM
  have HX:=Lib.hid HX
  have i0:(0:Int) < (L:Int):=by omega
  have i0':0 < L:=by omega
  have eL:decide ((L:Int) < 1)=false:=by simp;omega
  have q2:(1:Int) ≤ (cap:Int):=by omega
  have hsl:=fun u=>slice_from ad L cap 1 0 (by omega) 1 1 rfl rfl u
  go_enter Tryz.func100,Tryz.ntmps100
  go_wp2_with (first | (go_at_call 103;(with_reducible refine (HL.out _ ((Below.refl _ _).alloc (Nat.le_refl _) _)).mono ?_);rintro e w' ⟨rfl,rfl⟩) | (go_at_call 104;refine (HF.out _).mono ?_;rintro e w' ⟨rfl,rfl⟩))
  go_region_with (go_at_call 105;(with_reducible refine (HM.out _).mono ?_);rintro e w' ⟨rfl,rfl⟩)
  all_goals
    go_wp2_with (first | (go_at_call 81;(with_reducible refine (HX.out _).mono ?_);rintro e w' ⟨rfl,rfl⟩) | (go_at_call 107;(with_reducible refine (HS.out _ (by repeat (first | exact Below.refl _ _ | (with_reducible refine Below.drew ?_) | (with_reducible refine below_last ?_ _)))).mono ?_);rintro e w' ⟨rfl,nq,rfl⟩;simp only [drew_alloc,drewN_alloc];have hsz:(w.drew.drewN nq).heap.size=w.heap.size:=drewN_size w.drew nq;have HU:=Lib.hid (below_drN (Below.refl w.heap.size w).drew nq);rw [← hsz];clear hsz;generalize w.drew.drewN nq=u2 at HU ⊢))
    go_returns
    refine ⟨rfl,?_⟩
    repeat (first | exact HU.out | (with_reducible refine below_last ?_ _))
set_option maxRecDepth 512
theorem mrread_a (v:Value) (L:Nat) (bs:Nat→Int) (hb:∀ i,0 ≤ bs i∧bs i < 256) (w:World) (hs:Slc .u8 w v L bs) (hL:L ≤ maxLen) (h:L < lenF L bs) :
    Calls Tryz.prog 100 #[v] w fun e w'=>e=.returned (.tuple #[.agg #[.int .i64 0,.int .i64 0,.int .i64 0,.int .i64 0,.int .i64 0,.int .u32 0],.int .i64 0,.int .i64 0,.int .i64 21])∧Below w.heap.size w w':=by
  have HL:=fun (u:World) (hu:Below w.heap.size w u)=>mlength_any _ L bs hb u (hs.below hu) hL
  have hl:=lenF_le L bs
  obtain ⟨a,cap,rfl⟩:=hs.len
  generalize lenF L bs=M at *
  have HL:=Lib.hid HL
  have eL:decide ((L:Int) < (M:Int))=true:=by simp;omega
  have eL':decide (L < M)=true:=by simp;omega
  unfold maxLen at hL
  clear hs hb
  go_enter Tryz.func100,Tryz.ntmps100
  go_wp2_with (go_at_call 103;(with_reducible refine (HL.out _ ((Below.refl _ _).alloc (Nat.le_refl _) _)).mono ?_);rintro e w' ⟨rfl,rfl⟩)
  go_returns
  exact ⟨rfl,(Below.refl _ _).alloc (Nat.le_refl _) _⟩
theorem lenF_some {L:Nat} {bs:Nat→Int} (h:lenF L bs ≤ L) (h3:bs 0 / 64 ≠ 3) :
    1 ≤ L∧((bs 0 % 8 ≠ 4∧1+more9 (bs 0 / 64) (bs 0 % 8) ≤ L) ∨ (bs 0 % 8=4∧2+more9 (bs 0 / 64) (bs 1 % 8) ≤ L)):=by
  unfold lenF at h
  by_cases h0:L=0
  · rw [if_pos h0] at h;omega
  · rw [if_neg h0,if_neg h3] at h
    refine ⟨by omega,?_⟩
    by_cases h4:bs 0 % 8=4
    · rw [if_neg (by omega)] at h
      by_cases h1:L=1
      · rw [if_pos h1] at h;omega
      · rw [if_neg h1] at h
        exact .inr ⟨h4,h⟩
    · rw [if_pos h4] at h
      exact .inl ⟨h4,h⟩
theorem mrread_any (v:Value) (L:Nat) (bs:Nat→Int) (hb:∀ i,0 ≤ bs i∧bs i < 256) (w:World) (hs:Slc .u8 w v L bs) (hL:L ≤ maxLen) :
    Calls Tryz.prog 100 #[v] w fun e w'=>e=.returned (rmV L bs)∧Below w.heap.size w w':=by
  by_cases h:L < lenF L bs
  · rw [rmV_none (lenF_none h)]
    exact mrread_a v L bs hb w hs hL h
  · have hle:1 ≤ L:=by have:=lenF_le L bs;omega
    rcases id hs with ⟨_,h0⟩ | ⟨ad,cap,rfl,hl,hc⟩
    · omega
    by_cases h3:bs 0 / 64=3
    · rw [rmV_some (show rmF L bs=some (⟨1,bs 0 % 8,-1,-1,1,0⟩,bs 0 / 8 % 8,1) by unfold rmF;rw [if_neg (by omega),if_pos h3])]
      exact mrread_b L bs hb ad cap w hl hc hL hle h3
    · obtain ⟨_,hq⟩:=lenF_some (L:=L) (by omega) h3
      rcases hq with ⟨h4,hn⟩ | ⟨h4,hn⟩
      · rw [rmV_some (show rmF L bs=some (⟨3,0,base9 (bs 0 / 64) (bs 0 % 8),-1,1,disp9 (more9 (bs 0 / 64) (bs 0 % 8)) bs 1⟩,bs 0 / 8 % 8,1+more9 (bs 0 / 64) (bs 0 % 8)) by unfold rmF;rw [if_neg (by omega),if_neg h3,if_neg h4,if_neg (by omega)])]
        exact mrread_c L bs hb ad cap w hl hc hL hle h3 h4 hn
      · rw [rmV_some (show rmF L bs=some (⟨3,0,base9 (bs 0 / 64) (bs 1 % 8),sibI (bs 1),sibS (bs 1),disp9 (more9 (bs 0 / 64) (bs 1 % 8)) bs 2⟩,bs 0 / 8 % 8,2+more9 (bs 0 / 64) (bs 1 % 8)) by unfold rmF;rw [if_neg (by omega),if_neg h3,if_pos h4,if_neg (by omega),if_neg (by omega)])]
        exact mrread_d L bs hb ad cap w hl hc hL h3 h4 hn
end Go.Proofs.YtlnahkkemjgjbaaGreat
