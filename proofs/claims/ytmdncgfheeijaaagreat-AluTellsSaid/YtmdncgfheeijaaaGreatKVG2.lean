import Derived.Laws.BitsAllLaws
import Derived.Test.YtmdncgfheeijaaaGreatRows
import Derived.ProofKit
import Derived.OpenShut
import Derived.ChangeSame
import Derived.ChangeArms
import Derived.BigQuiet
import Derived.Deep.QuietTactic
import Derived.Deep.MidRow
import Derived.BigRegion
import Derived.Lib.Hide
import Derived.Orders
import Derived.Test.YtmdncgfheeijaaaGreatKVG0
namespace Go.Proofs.YtmdncgfheeijaaaGreat
section
open Go
set_option maxRecDepth 100000
theorem bit_high{n i:Nat}(hn:n<4294967296)(hi:¬i<32):n.testBit i=false:=
 Nat.testBit_lt_two_pow (Nat.lt_of_lt_of_le (show n<2^32 from hn) (Nat.pow_le_pow_right (by omega) (by omega)))
theorem put_low(n m:Nat)(hn:n<4294967296)(hm:m<256):(n &&& 4294967040) ||| m=n/256*256+m:=by
 have e1:n/256*256+m=(n/256) <<< 8 ||| m:=by
  rw[←Nat.shiftLeft_add_eq_or_of_lt (show m<2^8 from hm),Nat.shiftLeft_eq]
 rw[e1,show(4294967040:Nat)=(2^24-1) <<< 8 from rfl]
 apply Nat.eq_of_testBit_eq
 intro i
 rw[Nat.testBit_or,Nat.testBit_or,Nat.testBit_and,Nat.testBit_shiftLeft,Nat.testBit_shiftLeft,Nat.testBit_two_pow_sub_one,show n/256=n >>> 8 by rw[Nat.shiftRight_eq_div_pow],Nat.testBit_shiftRight]
 by_cases h8:8≤i
 ·rw[show 8+(i-8)=i by omega]
  by_cases h32:i<32
  ·simp[h8,show i-8<24 by omega]
  ·simp[bit_high hn h32]
 ·simp[h8]
theorem put_high(n m:Nat)(hn:n<4294967296)(hm:m<256):(n &&& 4294902015) ||| (m*256)=n/65536*65536+m*256+n%256:=by
 have e1:n/65536*65536+m*256+n%256=(n/65536) <<< 16 ||| (m <<< 8 ||| n%2^8):=by
  have h1:m <<< 8 ||| n%2^8=m*256+n%256:=by
   rw[←Nat.shiftLeft_add_eq_or_of_lt (Nat.mod_lt _ (by decide)),Nat.shiftLeft_eq]
  rw[h1,←Nat.shiftLeft_add_eq_or_of_lt (show m*256+n%256<2^16 by omega),Nat.shiftLeft_eq]
  omega
 rw[e1,show(4294902015:Nat)=(2^16-1) <<< 16 ||| (2^8-1)from rfl,show m*256=m <<< 8 by rw[Nat.shiftLeft_eq]]
 apply Nat.eq_of_testBit_eq
 intro i
 simp only[Nat.testBit_or,Nat.testBit_and,Nat.testBit_shiftLeft,Nat.testBit_two_pow_sub_one,Nat.testBit_mod_two_pow,show n/65536=n >>> 16 by rw[Nat.shiftRight_eq_div_pow],Nat.testBit_shiftRight]
 by_cases h16:16≤i
 ·rw[show 16+(i-16)=i by omega]
  have h8:¬i<8:=by omega
  by_cases h32:i<32
  ·simp[h16,h8,show i-16<16 by omega]
  ·simp[h16,h8,bit_high hn h32]
 ·by_cases h8:i<8
  ·simp[h16,h8,show ¬8≤i by omega]
  ·simp[h16,h8]
theorem bits_put0(R x:Int)(h0:0≤R)(h1:R<4294967296)(x0:0≤x)(x1:x<256):bits .or .u32 (bits .andNot .u32 R 255) x=R/256*256+x:=by
 obtain⟨n,rfl⟩:=Int.eq_ofNat_of_zero_le h0
 obtain⟨m,rfl⟩:=Int.eq_ofNat_of_zero_le x0
 rw[u32_andNot n 255 h0 h1 (by decide) (by decide),Int.toNat_natCast,show(4294967295-Int.toNat 255)=4294967040 from rfl]
 have hle:n &&& 4294967040≤n:=Nat.and_le_left
 rw[u32_or_nat _ _ (by omega) (by omega),put_low n m (by omega) (by omega)]
 omega
theorem bits_put8(R x:Int)(h0:0≤R)(h1:R<4294967296)(x0:0≤x)(x1:x<256):bits .or .u32 (bits .andNot .u32 R 65280) (x*256)=R/65536*65536+x*256+R%256:=by
 obtain⟨n,rfl⟩:=Int.eq_ofNat_of_zero_le h0
 obtain⟨m,rfl⟩:=Int.eq_ofNat_of_zero_le x0
 rw[u32_andNot n 65280 h0 h1 (by decide) (by decide),Int.toNat_natCast,show(4294967295-Int.toNat 65280)=4294902015 from rfl]
 have hle:n &&& 4294902015≤n:=Nat.and_le_left
 rw[show(m:Int)*256=((m*256:Nat):Int)by omega,u32_or_nat _ _ (by omega) (by omega),put_high n m (by omega) (by omega)]
 omega
theorem and255L(v:Int)(h0:0≤v)(h1:v<18446744073709551616):bits .and .u64 v 255=v%256:=by
 rw[u64_and v 255 h0 h1 (by decide) (by decide)]
 have h:v.toNat &&& (255:Int).toNat=v.toNat%256:=Nat.and_two_pow_sub_one_eq_mod v.toNat 8
 rw[h]
 omega
end
section
open Go.ChangeShapes Go.WideShapes Go.ChangeAt Go.RowKit
section
variable {H:Type} {enc:TypeId×Value→H} {P:Program}
set_option maxRecDepth 100000
theorem post_plain{f:Func}{s:ChangeSpec}{apart fresh handsOn again:Bool}{W W':World}{args:Array Value}{v:Value}{ds gs:List (DataW H)}
  (hW:DataW.Whole enc P f.params.toList s.vars apart W args.toList ds gs []) (hb:Below W.heap.size W W')
  (hargs:∀sp:Nat→Bool,DataW.TrodAll enc P W' 0 sp true f.params.toList args.toList (s.fn H (ds++gs)).args [])
  (hvars:∀sp:Nat→Bool,DataW.TrodVars enc P W' sp s.vars (s.fn H (ds++gs)).vars [])
  (hres:∀(b:Nat) (sp:Nat→Bool) (hd:Bool),DataW.TrodAll enc P W' b sp hd f.resultTypes.toList (v.resultList f.resultTypes.size) (s.fn H (ds++gs)).results [])
  (hok:∀(j:Nat) (t:TypeId) (r:Value),f.resultTypes[j]?=some t→(v.resultList f.resultTypes.size)[j]?=some r→Value.okWide P W' .any 0 t r):
  s.post enc P f apart fresh handsOn again W args v W':=by
 refine⟨ds,gs,[],[],[],[],hW,hres _ _ _,hargs _,hvars _,hb.frame _,fun _=>?_⟩
 have hA:=trodAll_append (hargs fun _=>true) (hres 0 (fun _=>true) true)
 refine⟨hok,_,_,[]++[],⟨[]++[],[],hA,hvars fun _=>true,rfl,?_,?_⟩,?_⟩
 ·intro b off hp;cases hp
 ·intro _;exact List.nodup_nil
 ·intro p hp;cases hp
end
section
variable {H:Type} {enc:TypeId×Value→H} {w:World} {base:Nat} {spare:Nat→Bool} {held:Bool}
end
end
section
open Go
section
variable {P:Program} {C:World→Prop} {K:Act→Prop} {a:Act} {d:Option Tmp} {ty:TypeId} {pos:String} {af:Array Edge} {g:Option (Nat×Bool)}
set_option maxRecDepth 100000
theorem run_mv(v:Value)(u:World):(execOp a.eval (Oper.mk d (.move (.const v)) ty pos af g)).run P u=.ok (.value v) u:=by
 unfold execOp
 simp[Act.eval]
theorem quietC_val(op:Op)(v:Value)(h:∀u,C u→(execOp a.eval (Oper.mk d op ty pos af g)).run P u=.ok (.value v) u)(hK:(Oper.mk d (.move (.const v)) ty pos af g).quiet P a C K):(Oper.mk d op ty pos af g).quiet P a C K:=by
 obtain⟨v',h1,h2⟩:=hK
 by_cases hne:∃u,C u
 ·obtain⟨u,hu⟩:=hne
  have h3:=h1 u hu
  unfold Oper.quietAt at h3
  rw[run_mv]at h3
  obtain⟨_,rfl⟩:=h3
  exact⟨_,fun u hu=>by unfold Oper.quietAt;rw[h u hu];exact⟨rfl,rfl⟩,h2⟩
 ·exact⟨v',fun u hu=>absurd ⟨u,hu⟩ hne,h2⟩
theorem quietC_call(f:FuncId)(ags:Array Operand)(ts:Array TypeId)(args:Array Value)(v:Value)(h:∀u,C u→(execOp a.eval (Oper.mk d (.call { callee:=.value (.func f),args:=ags,argTypes:=ts }) ty pos af g)).run P u=.ok (.enter f args) u)(hc:∀u,C u→Calls P f args u fun e u'=>e=.returned v∧C u')(hK:(Oper.mk d (.move (.const v)) ty pos af g).quiet P a C K):(Oper.mk d (.call { callee:=.value (.func f),args:=ags,argTypes:=ts }) ty pos af g).quiet P a C K:=by
 obtain⟨v',h1,h2⟩:=hK
 by_cases hne:∃u,C u
 ·obtain⟨u,hu⟩:=hne
  have h3:=h1 u hu
  unfold Oper.quietAt at h3
  rw[run_mv]at h3
  obtain⟨_,rfl⟩:=h3
  exact⟨_,fun u hu=>by unfold Oper.quietAt;rw[h u hu];exact⟨rfl,hc u hu⟩,h2⟩
 ·exact⟨v',fun u hu=>absurd ⟨u,hu⟩ hne,h2⟩
theorem quietC_read(t:TypeId)(x:Operand)(v:Value)(hl:∀u,C u→(Instr.loadAt t (a.eval x)).run P u=.ok v u)(hK:(Oper.mk d (.move (.const v)) ty pos af g).quiet P a C K):(Oper.mk d (.load t x) ty pos af g).quiet P a C K:=
 quietC_val _ v (fun u hu=>by
  unfold execOp
  simp only[Sem.run_bind,hl u hu,Result.andThen_ok,Sem.run_pure]) hK
theorem quietC_load(t:TypeId)(x:Operand)(b off:Nat)(hx:a.eval x=.pointer (some ⟨b,off,none⟩))(cs:List Value)(e:TypeDesc)(hC:∀u,C u→u.rangeAt b off cs)(hu:P.underlying t=some e)(hd:e.isRow=true)(hi:(P.info? t).map (·.size)=some cs.length)(hK:(Oper.mk d (.move (.const (.agg cs.toArray))) ty pos af g).quiet P a C K):(Oper.mk d (.load t x) ty pos af g).quiet P a C K:=
 quietC_read t x (.agg cs.toArray) (fun u hu'=>by rw[hx];exact run_loadAt_mid (P:=P) u b off t cs e (hC u hu') hu hd hi) hK
theorem wp_region_quietC{id:Nat}{Q:Exit→Act→World→Prop}{w:World}{l:List Oper}(C:World→Prop)(hm:P.follows .mixedOrders=true)(hB:Region.lexB .any l.toArray=true)(hC:C { w with drawn:=w.drawn+1 })
  (h:wpQuiet P l.toArray C (fun a'=>∀w',C w'→Q .normal a' w') l a):(Code.region id l.toArray true).wp P Q a w:=
 wp_region_quiet (C:=C) hm hB hC (by simpa using h)
theorem class_const{C:World→Prop}{w:World}(h:C w)(p:Prop):(∀u,C u→p)=p:=propext ⟨fun k=>k w h,fun k _ _=>k⟩
end
end
section
open Go.ChangeShapes Go.WideShapes Go.ChangeAt Go.RowKit
set_option maxRecDepth 100000
theorem width_any(n:Int)(w:World):Calls Tryz.prog 119 #[.int .i64 n] w fun e w'=>e=.returned (.int .u64 (wid n))∧w=w':=by
 by_cases h:n<2
 ·go_enter Tryz.func119,Tryz.ntmps119
  go_wp2
  go_ret
  exact⟨by simp[wid,h],rfl⟩
 ·by_cases h4:n<4
  all_goals
   go_enter Tryz.func119,Tryz.ntmps119
   go_wp2
   go_ret
   exact⟨by rw[wid,if_neg (by omega)];first|rw[if_pos (by omega)];rfl|rw[if_neg (by omega)];rfl,rfl⟩
theorem one_any(b:Bool)(w:World):Calls Tryz.prog 91 #[.bool b] w fun e w'=>e=.returned (.int .u64 (b.toNat))∧w=w':=by
 cases b
 all_goals
  go_enter Tryz.func91,Tryz.ntmps91
  go_wp2
  go_ret
  exact⟨by simp,rfl⟩
theorem cut_any(v n:Int)(w:World):Calls Tryz.prog 90 #[.int .u32 v,.int .i64 n] w fun e w'=>e=.returned (.int .u32 (cut v n))∧w=w':=by
 have hl:=wid_lo n
 have hh:=wid_hi n
 have hE:=Lib.hid (cut_eq v n)
 go_enter Tryz.func90,Tryz.ntmps90
 go_wp2_with (go_at_call 119;refine(width_any _ _).mono ?_;rintro e w' ⟨rfl,rfl⟩)
 go_ret
 exact⟨by rw[←hE.out];rfl,rfl⟩
theorem signed_any(v n:Int)(w:World):Calls Tryz.prog 128 #[.int .u32 v,.int .i64 n] w fun e w'=>e=.returned (.int .i32 (sgn v n))∧w=w':=by
 have hl:=wid_lo n
 have hh:=wid_hi n
 have hE:=Lib.hid (sgn_eq v n)
 go_enter Tryz.func128,Tryz.ntmps128
 go_wp2_with (go_at_call 119;refine(width_any _ _).mono ?_;rintro e w' ⟨rfl,rfl⟩)
 go_ret
 exact⟨by rw[←hE.out];rfl,rfl⟩
theorem high_any(v n:Int)(w:World)(h0:0≤v)(h1:v<4294967296):Calls Tryz.prog 92 #[.int .u32 v,.int .i64 n] w fun e w'=>e=.returned (.bool (hi v n))∧w=w':=by
 have hl:=wid_lo n
 have hh:=wid_hi n
 have hE:=Lib.hid (high_eq v n h0 h1)
 go_enter Tryz.func92,Tryz.ntmps92
 go_wp2_with (go_at_call 119;refine(width_any _ _).mono ?_;rintro e w' ⟨rfl,rfl⟩)
 go_ret
 exact⟨by rw[←hE.out];rfl,rfl⟩
theorem parity_any(v:Int)(w:World):Calls Tryz.prog 120 #[.int .u32 v] w fun e w'=>e=.returned (.bool (par v))∧w=w':=by
 have hE:=Lib.hid (par_eq v)
 go_enter Tryz.func120,Tryz.ntmps120
 go_wp2
 go_ret
 exact⟨by rw[←hE.out];rfl,rfl⟩
theorem logic_any(v n:Int)(w:World):Calls Tryz.prog 87 #[.int .u32 v,.int .i64 n] w fun e w'=>
  e=.returned (.tuple #[.int .u32 (cut v n),.agg #[.bool false,.bool (par (cut v n)),.bool (zer (cut v n)),.bool (hi (cut v n) n),.bool false,.bool false]])∧Below w.heap.size w w':=by
 have b0:=cut_lo v n
 have b1:=cut_hi v n
 go_enter Tryz.func87,Tryz.ntmps87
 go_wp2_with (first|(go_at_call 90;refine(cut_any _ _ _).mono ?_;rintro e w' ⟨rfl,rfl⟩)|(go_at_call 92;refine(high_any _ _ _ (by assumption) (by assumption)).mono ?_;rintro e w' ⟨rfl,rfl⟩)|(go_at_call 120;refine(parity_any _ _).mono ?_;rintro e w' ⟨rfl,rfl⟩))
 refine bodyPost_ret (v:=.tuple #[.int .u32 (cut v n),.agg #[.bool false,.bool (par (cut v n)),.bool (zer (cut v n)),.bool (hi (cut v n) n),.bool false,.bool false]]) (by simp[results,Tryz.results87,go_sem,zer]) rfl ⟨rfl,?_⟩
 exact(Below.refl _ _).alloc (Nat.le_refl _) _
theorem logic_add(a b n:Int)(c:Bool)(w:World):Calls Tryz.prog 87 #[.int .u32 ((cut a n+cut b n+↑c.toNat)%4294967296),.int .i64 n] w fun e w'=>
  e=.returned (.tuple #[.int .u32 (addV a b n c),.agg #[.bool false,.bool (par (addV a b n c)),.bool (zer (addV a b n c)),.bool (hi (addV a b n c) n),.bool false,.bool false]])∧Below w.heap.size w w':=by
 have h:=logic_any ((cut a n+cut b n+↑c.toNat)%4294967296) n w
 rw[cut_cut32]at h
 exact h
theorem logic_sub(a b n:Int)(c:Bool)(w:World):Calls Tryz.prog 87 #[.int .u32 (IntKind.u64.wrap (cut a n-(cut b n+↑c.toNat))%4294967296),.int .i64 n] w fun e w'=>
  e=.returned (.tuple #[.int .u32 (subV a b n c),.agg #[.bool false,.bool (par (subV a b n c)),.bool (zer (subV a b n c)),.bool (hi (subV a b n c) n),.bool false,.bool false]])∧Below w.heap.size w w':=by
 have h:=logic_any (IntKind.u64.wrap (cut a n-(cut b n+↑c.toNat))%4294967296) n w
 have e:cut (IntKind.u64.wrap (cut a n-(cut b n+↑c.toNat))%4294967296) n=subV a b n c:=by
  rw[cut_cut32,IntKind.wrap_u64,←cut_cut32,show(cut a n-(cut b n+↑c.toNat))%18446744073709551616%4294967296=(cut a n-cut b n-↑c.toNat)%4294967296 by omega,cut_cut32]
  rfl
 rw[e]at h
 exact h
theorem high_add(a b n:Int)(c:Bool)(w:World):Calls Tryz.prog 92 #[.int .u32 (bits .and .u32 (bits .xor .u32 (cut a n) (addV a b n c)) (bits .xor .u32 (cut b n) (addV a b n c))),.int .i64 n] w fun e w'=>e=.returned (.bool (addO a b n c))∧w=w':=by
 have a0:=cut_lo a n
 have a1:=cut_hi a n
 have b0:=cut_lo b n
 have b1:=cut_hi b n
 have v0:=addV_lo a b n c
 have v1:=addV_hi a b n c
 have h:=high_any _ n w (and_lo _ _ (xor_lo _ _ a0 a1 v0 v1) (xor_hi _ _ a0 a1 v0 v1) (xor_lo _ _ b0 b1 v0 v1) (xor_hi _ _ b0 b1 v0 v1)) (and_hi _ _ (xor_lo _ _ a0 a1 v0 v1) (xor_hi _ _ a0 a1 v0 v1) (xor_lo _ _ b0 b1 v0 v1) (xor_hi _ _ b0 b1 v0 v1))
 rw[addO_eq]at h
 exact h
theorem high_sub(a b n:Int)(c:Bool)(w:World):Calls Tryz.prog 92 #[.int .u32 (bits .and .u32 (bits .xor .u32 (cut a n) (cut b n)) (bits .xor .u32 (cut a n) (subV a b n c))),.int .i64 n] w fun e w'=>e=.returned (.bool (subO a b n c))∧w=w':=by
 have a0:=cut_lo a n
 have a1:=cut_hi a n
 have b0:=cut_lo b n
 have b1:=cut_hi b n
 have v0:=subV_lo a b n c
 have v1:=subV_hi a b n c
 have h:=high_any _ n w (and_lo _ _ (xor_lo _ _ a0 a1 b0 b1) (xor_hi _ _ a0 a1 b0 b1) (xor_lo _ _ a0 a1 v0 v1) (xor_hi _ _ a0 a1 v0 v1)) (and_hi _ _ (xor_lo _ _ a0 a1 b0 b1) (xor_hi _ _ a0 a1 b0 b1) (xor_lo _ _ a0 a1 v0 v1) (xor_hi _ _ a0 a1 v0 v1))
 rw[subO_eq]at h
 exact h
set_option maxHeartbeats 4000000
theorem add_any(a b n:Int)(c:Bool)(w:World):Calls Tryz.prog 85 #[.int .u32 a,.int .u32 b,.int .i64 n,.bool c] w fun e w'=>
  e=.returned (.tuple #[.int .u32 (addV a b n c),.agg #[.bool (addC a b n c),.bool (par (addV a b n c)),.bool (zer (addV a b n c)),.bool (hi (addV a b n c) n),.bool (addO a b n c),.bool false]])∧Below w.heap.size w w':=by
 have a0:=cut_lo a n
 have a1:=cut_hi a n
 have b0:=cut_lo b n
 have b1:=cut_hi b n
 have c1:=toNat_hi c
 go_enter Tryz.func85,Tryz.ntmps85
 go_wp2_with (first|(go_at_call 90;refine(cut_any _ _ _).mono ?_;rintro e w' ⟨rfl,rfl⟩)|(go_at_call 91;refine(one_any _ _).mono ?_;rintro e w' ⟨rfl,rfl⟩)|(go_at_call 119;refine(width_any _ _).mono ?_;rintro e w' ⟨rfl,rfl⟩) |
  (go_at_call 87;refine(logic_add _ _ _ _ _).mono ?_;rintro e w1 ⟨rfl,hb⟩;obtain⟨hc,hf⟩:=bcell hb;have hz:w.heap.size<w1.heap.size:=(by have:=hb.size;simp at this;omega)) |
  (go_at_call 92;refine(high_add _ _ _ _ _).mono ?_;rintro e w' ⟨rfl,rfl⟩))
 go_region
 all_goals
  go_wp2
  refine bodyPost_ret (v:=.tuple #[.int .u32 (addV a b n c),.agg #[.bool (addC a b n c),.bool (par (addV a b n c)),.bool (zer (addV a b n c)),.bool (hi (addV a b n c) n),.bool (addO a b n c),.bool false]]) (by simp[results,Tryz.results85,go_sem,hc,hz,addC_eq]) rfl ⟨rfl,?_⟩
  have hB:Below w.heap.size w w1:=((Below.refl _ _).alloc (Nat.le_refl _) _).trans (hb.mono (by simp))
  exact((((((((hB.setCell (by simp) _).setCell (by simp) _).setCell (by simp) _).setCell (by simp) _).setCell (by simp) _).setCell (by simp) _).alloc (by simp[World.setCell];omega) _).drew)
theorem sub_any(a b n:Int)(c:Bool)(w:World):Calls Tryz.prog 67 #[.int .u32 a,.int .u32 b,.int .i64 n,.bool c] w fun e w'=>
  e=.returned (.tuple #[.int .u32 (subV a b n c),.agg #[.bool (subC a b n c),.bool (par (subV a b n c)),.bool (zer (subV a b n c)),.bool (hi (subV a b n c) n),.bool (subO a b n c),.bool false]])∧Below w.heap.size w w':=by
 have a0:=cut_lo a n
 have a1:=cut_hi a n
 have b0:=cut_lo b n
 have b1:=cut_hi b n
 have c1:=toNat_hi c
 go_enter Tryz.func67,Tryz.ntmps67
 go_wp2_with (first|(go_at_call 90;refine(cut_any _ _ _).mono ?_;rintro e w' ⟨rfl,rfl⟩)|(go_at_call 91;refine(one_any _ _).mono ?_;rintro e w' ⟨rfl,rfl⟩)|(go_at_call 119;refine(width_any _ _).mono ?_;rintro e w' ⟨rfl,rfl⟩) |
  (go_at_call 87;refine(logic_sub _ _ _ _ _).mono ?_;rintro e w1 ⟨rfl,hb⟩;obtain⟨hc,hf⟩:=bcell hb;have hz:w.heap.size<w1.heap.size:=(by have:=hb.size;simp at this;omega)) |
  (go_at_call 92;refine(high_sub _ _ _ _ _).mono ?_;rintro e w' ⟨rfl,rfl⟩))
 go_region
 all_goals
  go_wp2
  refine bodyPost_ret (v:=.tuple #[.int .u32 (subV a b n c),.agg #[.bool (subC a b n c),.bool (par (subV a b n c)),.bool (zer (subV a b n c)),.bool (hi (subV a b n c) n),.bool (subO a b n c),.bool false]]) (by simp[results,Tryz.results67,go_sem,hc,hz,subC]) rfl ⟨rfl,?_⟩
  have hB:Below w.heap.size w w1:=((Below.refl _ _).alloc (Nat.le_refl _) _).trans (hb.mono (by simp))
  exact((((((((hB.setCell (by simp) _).setCell (by simp) _).setCell (by simp) _).setCell (by simp) _).setCell (by simp) _).setCell (by simp) _).alloc (by simp[World.setCell];omega) _).drew)
end
section
open Go
set_option maxRecDepth 100000
def got(ops:Array Oper)(a:Act)(i:Nat):Value:=
 match(ops[i]?).bind (·.dst)with
 |some d=>a.tmps.getD d undef
 |none=>undef
structure Mid {γ:Type} (ops:Array Oper) (md:Region.Mode) (a0:Act) (Inv:World→γ→Prop) (p:Nat→(Nat→Value)→World→γ→Prop) (listed:Array Bool) (a:Act) (w:World) (g:γ):Prop where
 len:listed.size=ops.size
 size:a.tmps.size=a0.tmps.size
 defers:a.defers=a0.defers
 base:∀t,(∀(i:Nat) (o:Oper),ops[i]?=some o→o.dst≠some t)→a.tmps.getD t undef=a0.tmps.getD t undef
 inv:Inv w g
 closed:∀(j:Nat) (o:Oper),ops[j]?=some o→listed.getD j false=true→∀e∈o.after,Region.binds md e=true→listed.getD e.on false=true
 done:∀i,listed.getD i false=true→p i (got ops a) w g
theorem put_size(a:Act)(d:Option Tmp)(v:Value):(a.put d v).tmps.size=a.tmps.size:=by cases d<;>simp[Act.put]
theorem put_defers(a:Act)(d:Option Tmp)(v:Value):(a.put d v).defers=a.defers:=by cases d<;>rfl
theorem put_other(a:Act)(d:Option Tmp)(v:Value)(t:Nat)(h:d≠some t):(a.put d v).tmps.getD t undef=a.tmps.getD t undef:=by
 cases d with
 |none=>rfl
 |some d=>
  have hne:d≠t:=fun e=>h (by rw[e])
  show(a.tmps.setIfInBounds d v).getD t undef=_
  simp[Array.getD_eq_getD_getElem?,hne]
theorem put_same(a:Act)(d:Tmp)(v:Value)(h:d<a.tmps.size):(a.put (some d) v).tmps.getD d undef=v:=by
 show(a.tmps.setIfInBounds d v).getD d undef=_
 simp[Array.getD_eq_getD_getElem?,h]
theorem countP_less{q q':Nat→Bool}(h:∀j,q' j=true→q j=true){i:Nat}(h1:q i=true)(h2:q' i=false):∀l:List Nat,i∈l→l.countP q'<l.countP q
 |[],hi=>by cases hi
 |x :: l,hi=>by
  rw[List.countP_cons,List.countP_cons]
  have hle:l.countP q'≤l.countP q:=List.countP_mono_left fun j _ hj=>h j hj
  by_cases e:x=i
  ·subst e
   rw[h1,h2]
   simp
   omega
  ·have:=countP_less h h1 h2 l ((List.mem_cons.1 hi).resolve_left (fun h=>e h.symm))
   cases hx:q' x
   ·simp;omega
   ·rw[h x hx];simp;omega
section
variable {P:Program} {ops:Array Oper} {Q:Exit→Act→World→Prop} {md:Region.Mode} {a0:Act} {γ:Type} {Inv:World→γ→Prop} {p:Nat→(Nat→Value)→World→γ→Prop} {G:World→γ→World→γ→Prop} {look:Nat→List Nat}
theorem wpOp_mono{i:Nat}{K K':Act→World→Prop}{a:Act}{w:World}(h:∀a w,K a w→K' a w)(hh:wpOp P ops Q i K a w):wpOp P ops Q i K' a w:=by
 unfold wpOp at hh ⊢
 split at hh
 ·exact h _ _ hh
 ·split at hh
  ·rename_i hw
   rw[if_pos hw]
   exact hh.imp (Oper.wp_mono h) id
  ·rename_i hw
   rw[if_neg hw]
   exact h _ _ hh
theorem wpOp_free{i:Nat}{o:Oper}(ho:ops[i]?=some o)(hg:o.guard=none){K:Act→World→Prop}{a:Act}{w:World}(h:o.wp P a w K Q):wpOp P ops Q i K a w:=by
 unfold wpOp
 simp only[ho]
 rw[if_pos (by simp[Region.wanted,hg])]
 exact .inl h
theorem wpAny_midG(hd:∀(i j:Nat) (oi oj:Oper) (t:Tmp),ops[i]?=some oi→ops[j]?=some oj→oi.dst=some t→oj.dst=some t→i=j)
  (hsz:∀(i:Nat) (o:Oper) (t:Tmp),ops[i]?=some o→o.dst=some t→t<a0.tmps.size)
  (hlt:∀(i:Nat) (o:Oper),ops[i]?=some o→∀e∈o.after,Region.binds md e=true→e.on<i)
  (hlook:∀(i:Nat) (o:Oper) (k:Nat),ops[i]?=some o→k∈look i→(k=i∧o.dst≠none)∨∃e∈o.after,Region.binds md e=true∧e.on=k)
  (hp:∀i f f' w g w' g',p i f w g→(∀k∈look i,f k=f' k)→G w g w' g'→p i f' w' g') (hG:∀w g,G w g w g)
  (step:∀(i:Nat) (o:Oper) (a:Act) (w:World) (g:γ),ops[i]?=some o→Inv w g→a.tmps.size=a0.tmps.size→a.defers=a0.defers→(∀t,(∀(i:Nat) (o:Oper),ops[i]?=some o→o.dst≠some t)→a.tmps.getD t undef=a0.tmps.getD t undef) →
   (∀e∈o.after,Region.binds md e=true→p e.on (got ops a) w g) →
   wpOp P ops Q i (fun a' w'=>∃v g',a'=a.put o.dst v∧Inv w' g'∧G w g w' g'∧p i (fun k=>if k=i then v else got ops a k) w' g') a w)
  (fin:∀a w g,a.tmps.size=a0.tmps.size→a.defers=a0.defers→(∀t,(∀(i:Nat) (o:Oper),ops[i]?=some o→o.dst≠some t)→a.tmps.getD t undef=a0.tmps.getD t undef)→Inv w g→(∀i,i<ops.size→p i (got ops a) w g)→Q .normal a w):
  ∀fuel listed a w g,((List.range ops.size).countP fun i=>!listed.getD i false)≤fuel→Mid ops md a0 Inv p listed a w g→wpAny P md ops Q fuel listed a w:=by
 have hall:∀listed:Array Bool,listed.size=ops.size→Region.ready md ops listed=[]→∀i,i<ops.size→listed.getD i false=true:=by
  intro listed hlen hr i
  induction i using Nat.strongRecOn with
  |ind i ih=>
   intro hi
   cases hb:listed.getD i false with
   |true=>rfl
   |false=>
    exfalso
    have ho:ops[i]?=some ops[i]:=Array.getElem?_eq_getElem hi
    have:i∈Region.ready md ops listed:=mem_ready.2 ⟨by
     have hil:i<listed.size:=by omega
     simpa[Array.getD_eq_getD_getElem?,Array.getElem?_eq_getElem hil]using hb,ops[i],ho,fun e he hbi=>ih e.on (hlt i _ ho e he hbi) (by have:=hlt i _ ho e he hbi;omega)⟩
    rw[hr]at this
    cases this
 have hend:∀listed a w g,Mid ops md a0 Inv p listed a w g→Region.ready md ops listed=[]→Q .normal a w:=fun listed a w g m hr=>
  fin a w g m.size m.defers m.base m.inv (fun i hi=>m.done i (hall listed m.len hr i hi))
 intro fuel
 induction fuel with
 |zero=>
  intro listed a w g hc m
  have hr:Region.ready md ops listed=[]:=by
   cases hr:Region.ready md ops listed with
   |nil=>rfl
   |cons i l=>
    exfalso
    have hi:i∈Region.ready md ops listed:=by rw[hr];exact List.mem_cons_self
    obtain⟨hu,o,ho,_⟩:=mem_ready.1 hi
    have hio:i<ops.size:=(Array.getElem?_eq_some_iff.1 ho).1
    have hil:i<listed.size:=by rw[m.len];exact hio
    have hu':listed.getD i false=false:=by simpa[Array.getD_eq_getD_getElem?,Array.getElem?_eq_getElem hil]using hu
    have h0:((List.range ops.size).countP fun i=>!listed.getD i false)=0:=by omega
    rw[List.countP_eq_zero]at h0
    have:=h0 i (List.mem_range.2 hio)
    rw[hu']at this
    simp at this
  exact⟨hr,hend listed a w g m hr⟩
 |succ fuel ih=>
  intro listed a w g hc m
  refine⟨hend listed a w g m,fun i hi=>?_⟩
  obtain⟨hu,o,ho,hdep⟩:=mem_ready.1 hi
  have hio:i<ops.size:=(Array.getElem?_eq_some_iff.1 ho).1
  have hil:i<listed.size:=by rw[m.len];exact hio
  have hu':listed.getD i false=false:=by simpa[Array.getD_eq_getD_getElem?,Array.getElem?_eq_getElem hil]using hu
  have hset:∀j,(listed.setIfInBounds i true).getD j false=if j=i then true else listed.getD j false:=fun j=>by
   by_cases e:j=i
   ·subst e;simp[Array.getD_eq_getD_getElem?,hil]
   ·rw[if_neg e];simp[Array.getD_eq_getD_getElem?,Ne.symm e]
  have hs:=step i o a w g ho m.inv m.size m.defers m.base (fun e he hb=>m.done e.on (hdep e he hb))
  refine wpOp_mono ?_ hs
  rintro a' w' ⟨v,g',rfl,hinv,hgw,hpi⟩
  have hgot:∀k,k≠i→got ops (a.put o.dst v) k=got ops a k:=fun k hk=>by
   unfold got
   cases hk2:(ops[k]?).bind (·.dst)with
   |none=>rfl
   |some t=>
    obtain⟨ok,hok,hkd⟩:∃ok,ops[k]?=some ok∧ok.dst=some t:=by
     cases h:ops[k]? with
     |none=>rw[h]at hk2;cases hk2
     |some ok=>rw[h]at hk2;exact⟨ok,rfl,hk2⟩
    exact put_other a o.dst v t (fun h=>hk (hd k i ok o t hok ho hkd h))
  refine ih _ _ _ g' ?_ ⟨by simp[m.len],by rw[put_size,m.size],by rw[put_defers,m.defers],fun t ht=>by rw[put_other a o.dst v t (ht i o ho),m.base t ht],hinv,?_,?_⟩
  ·have hlt2:((List.range ops.size).countP fun j=>!(listed.setIfInBounds i true).getD j false)<((List.range ops.size).countP fun j=>!listed.getD j false):=by
    refine countP_less (fun j hj=>?_) (i:=i) (by rw[hu'];rfl) (by rw[hset,if_pos rfl];rfl) _ (List.mem_range.2 hio)
    rw[hset]at hj
    by_cases e:j=i
    ·rw[if_pos e]at hj;cases hj
    ·rw[if_neg e]at hj;exact hj
   omega
  ·intro j oj hoj hj e he hb
   rw[hset]at hj ⊢
   by_cases hei:e.on=i
   ·rw[if_pos hei]
   ·rw[if_neg hei]
    by_cases hji:j=i
    ·subst hji
     rw[ho]at hoj;cases hoj
     exact hdep e he hb
    ·rw[if_neg hji]at hj
     exact m.closed j oj hoj hj e he hb
  ·intro j hj
   rw[hset]at hj
   by_cases hji:j=i
   ·subst hji
    refine hp j _ _ w' g' w' g' hpi (fun k hk=>?_) (hG w' g')
    rcases hlook j o k ho hk with⟨rfl,hdn⟩|⟨e,he,hb,rfl⟩
    ·rw[if_pos rfl]
     unfold got
     cases hdd:o.dst with
     |none=>exact absurd hdd hdn
     |some t=>
      have:(ops[k]?).bind (·.dst)=some t:=by rw[ho];exact hdd
      rw[this]
      exact(put_same a t v (by rw[m.size];exact hsz k o t ho hdd)).symm
    ·have hne:e.on≠j:=by have:=hlt j o ho e he hb;omega
     rw[if_neg hne,hgot _ hne]
   ·rw[if_neg hji]at hj
    refine hp j _ _ w g w' g' (m.done j hj) (fun k hk=>?_) hgw
    have hki:k≠i:=by
     rcases Nat.lt_or_ge j ops.size with hjo|hjo
     ·have hoj:ops[j]?=some ops[j]:=Array.getElem?_eq_getElem hjo
      rcases hlook j _ k hoj hk with⟨rfl,_⟩|⟨e,he,hb,rfl⟩
      ·exact hji
      ·intro h
       have:=m.closed j _ hoj hj e he hb
       rw[h,hu']at this
       cases this
     ·have:listed.getD j false=false:=by simp[Array.getD_eq_getD_getElem?,Array.getElem?_eq_none (show listed.size≤j by rw[m.len];exact hjo)]
      rw[this]at hj;cases hj
    rw[hgot k hki]
theorem wp_region_mid(hm:P.follows .mixedOrders=true){id:Nat}{a:Act}{w:World}(hg:∀(i:Nat) (o:Oper),ops[i]?=some o→o.guard=none)
  (hd:∀(i j:Nat) (oi oj:Oper) (t:Tmp),ops[i]?=some oi→ops[j]?=some oj→oi.dst=some t→oj.dst=some t→i=j)
  (hsz:∀(i:Nat) (o:Oper) (t:Tmp),ops[i]?=some o→o.dst=some t→t<a.tmps.size)
  (hlt:∀(i:Nat) (o:Oper),ops[i]?=some o→∀e∈o.after,Region.binds .any e=true→e.on<i)
  (look:Nat→List Nat) (hlook:∀(i:Nat) (o:Oper) (k:Nat),ops[i]?=some o→k∈look i→(k=i∧o.dst≠none)∨∃e∈o.after,Region.binds .any e=true∧e.on=k)
  (g0:γ) (Inv:World→γ→Prop) (G:World→γ→World→γ→Prop) (p:Nat→(Nat→Value)→World→γ→Prop)
  (hp:∀i f f' w g w' g',p i f w g→(∀k∈look i,f k=f' k)→G w g w' g'→p i f' w' g') (hG:∀w g,G w g w g) (h0:Inv { w with drawn:=w.drawn+1 } g0)
  (step:∀(i:Nat) (o:Oper) (b:Act) (w:World) (g:γ),ops[i]?=some o→Inv w g→b.tmps.size=a.tmps.size→(∀t,(∀(i:Nat) (o:Oper),ops[i]?=some o→o.dst≠some t)→b.tmps.getD t undef=a.tmps.getD t undef) →
   (∀e∈o.after,Region.binds .any e=true→p e.on (got ops b) w g) →
   o.wp P b w (fun b' w'=>∃v g',b'=b.put o.dst v∧Inv w' g'∧G w g w' g'∧p i (fun k=>if k=i then v else got ops b k) w' g') Q)
  (fin:∀b w g,b.tmps.size=a.tmps.size→b.defers=a.defers→(∀t,(∀(i:Nat) (o:Oper),ops[i]?=some o→o.dst≠some t)→b.tmps.getD t undef=a.tmps.getD t undef)→Inv w g→(∀i,i<ops.size→p i (got ops b) w g)→Q .normal b w):
  (Code.region id ops true).wp P Q a w:=by
 refine wp_region_any hm (wpAny_midG (look:=look) hd hsz hlt hlook hp hG (fun i o b u g ho hi hs _ hb hd=>wpOp_free ho (hg i o ho) (step i o b u g ho hi hs hb hd)) fin ops.size _ a _ g0 ?_ ⟨by simp,rfl,rfl,fun _ _=>rfl,h0,?_,?_⟩)
 ·exact Nat.le_trans List.countP_le_length (by simp)
 ·intro j o _ hj
  have:(Array.replicate ops.size false).getD j false=false:=by simp[Array.getD_eq_getD_getElem?,Array.getElem?_replicate];split<;>rfl
  rw[this]at hj;cases hj
 ·intro j hj
  have:(Array.replicate ops.size false).getD j false=false:=by simp[Array.getD_eq_getD_getElem?,Array.getElem?_replicate];split<;>rfl
  rw[this]at hj;cases hj
def laid(ops:Array Oper)(f:Nat→Value)(a:Act):Nat→Act
 |0=>a
 |n+1=>(laid ops f a n).put ((ops[n]?).bind (·.dst)) (f n)
theorem laid_size(f:Nat→Value)(a:Act):∀n,(laid ops f a n).tmps.size=a.tmps.size
 |0=>rfl
 |n+1=>by unfold laid;rw[put_size,laid_size f a n]
theorem laid_defers(f:Nat→Value)(a:Act):∀n,(laid ops f a n).defers=a.defers
 |0=>rfl
 |n+1=>by unfold laid;rw[put_defers,laid_defers f a n]
theorem laid_at{a b:Act}(hsz:∀(i:Nat) (o:Oper) (t:Tmp),ops[i]?=some o→o.dst=some t→t<a.tmps.size)(t:Nat):∀n,(∃i,i<n∧(ops[i]?).bind (·.dst)=some t)∧(laid ops (got ops b) a n).tmps.getD t undef=b.tmps.getD t undef∨(∀i,i<n→(ops[i]?).bind (·.dst)≠some t)∧(laid ops (got ops b) a n).tmps.getD t undef=a.tmps.getD t undef
 |0=>.inr ⟨fun i h=>by omega,rfl⟩
 |n+1=>by
  unfold laid
  by_cases h:(ops[n]?).bind (·.dst)=some t
  ·refine .inl ⟨⟨n,by omega,h⟩,?_⟩
   obtain⟨o,ho,hd⟩:∃o,ops[n]?=some o∧o.dst=some t:=by
    cases hn:ops[n]? with
    |none=>rw[hn]at h;cases h
    |some o=>rw[hn]at h;exact⟨o,rfl,h⟩
   rw[h,put_same _ t _ (by rw[laid_size];exact hsz n o t ho hd)]
   unfold got
   rw[h]
  ·rw[put_other _ _ _ t h]
   rcases laid_at hsz t n with⟨⟨i,hi,hd⟩,he⟩|⟨hn,he⟩
   ·exact .inl ⟨⟨i,by omega,hd⟩,he⟩
   ·exact .inr ⟨fun i hi=>by
     by_cases e:i=n
     ·subst e;exact h
     ·exact hn i (by omega),he⟩
theorem laid_all{a b:Act}(hsz:∀(i:Nat) (o:Oper) (t:Tmp),ops[i]?=some o→o.dst=some t→t<a.tmps.size)(h1:b.tmps.size=a.tmps.size)(h2:b.defers=a.defers)(h3:∀t,(∀(i:Nat) (o:Oper),ops[i]?=some o→o.dst≠some t)→b.tmps.getD t undef=a.tmps.getD t undef):b=laid ops (got ops b) a ops.size:=by
 have ht:b.tmps=(laid ops (got ops b) a ops.size).tmps:=by
  apply Array.ext
  ·rw[laid_size,h1]
  ·intro t ht1 ht2
   have e1:b.tmps.getD t undef=b.tmps[t]:=by simp[Array.getD_eq_getD_getElem?,Array.getElem?_eq_getElem ht1]
   have e2:(laid ops (got ops b) a ops.size).tmps.getD t undef=(laid ops (got ops b) a ops.size).tmps[t]:=by simp[Array.getD_eq_getD_getElem?,Array.getElem?_eq_getElem ht2]
   rw[←e1,←e2]
   rcases laid_at (b:=b) hsz t ops.size with⟨_,he⟩|⟨hn,he⟩
   ·exact he.symm
   ·rw[he]
    exact h3 t fun i o ho hd=>hn i (Array.getElem?_eq_some_iff.1 ho).1 (by rw[ho];exact hd)
 obtain⟨bt,bd⟩:=b
 have hd:(laid ops (got ops ⟨bt,bd⟩) a ops.size).defers=bd:=by rw[laid_defers];exact h2.symm
 generalize laid ops (got ops ⟨bt,bd⟩) a ops.size=c at *
 obtain⟨ct,cd⟩:=c
 simp only at ht hd
 rw[ht,hd]
def fitDraw(ops:Array Oper)(look:Nat→List Nat)(n:Nat):Bool:=
 (List.range ops.size).all fun i=>
  match ops[i]? with
  |none=>true
  |some o=>o.guard.isNone&&((match o.dst with
    |some t=>decide (t<n)&&(List.range ops.size).all (fun j=>j==i || ((ops[j]?).bind (·.dst)) != some t)
    |none=>true)&&(o.after.all (fun e=>!Region.binds .any e || decide (e.on<i))&&(look i).all (fun k=>(k==i&&o.dst.isSome) || o.after.any (fun e=>Region.binds .any e&&e.on==k))))
theorem fitDraw_at{look:Nat→List Nat}{n:Nat}(h:fitDraw ops look n=true){i:Nat}{o:Oper}(ho:ops[i]?=some o):
  o.guard=none∧(∀t,o.dst=some t→t<n∧∀(j:Nat) (oj:Oper),ops[j]?=some oj→oj.dst=some t→j=i)∧(∀e∈o.after,Region.binds .any e=true→e.on<i)∧(∀k∈look i,(k=i∧o.dst≠none)∨∃e∈o.after,Region.binds .any e=true∧e.on=k):=by
 have hi:i<ops.size:=(Array.getElem?_eq_some_iff.1 ho).1
 have h1:=List.all_eq_true.1 h i (List.mem_range.2 hi)
 rw[ho]at h1
 simp only[Bool.and_eq_true]at h1
 obtain⟨g1,g2,g3,g4⟩:=h1
 refine⟨by simpa using g1,?_,?_,?_⟩
 ·intro t ht
  rw[ht]at g2
  simp only[Bool.and_eq_true,decide_eq_true_eq]at g2
  refine⟨g2.1,fun j oj hj hd=>?_⟩
  have h2:=List.all_eq_true.1 g2.2 j (List.mem_range.2 (Array.getElem?_eq_some_iff.1 hj).1)
  rw[hj]at h2
  simp[hd]at h2
  exact h2
 ·intro e he hb
  have:=Array.all_eq_true'.1 g3 e he
  rw[hb]at this
  simpa using this
 ·intro k hk
  have h2:=List.all_eq_true.1 g4 k hk
  simp only[Bool.or_eq_true,Bool.and_eq_true,beq_iff_eq]at h2
  rcases h2 with⟨h3,h4⟩|h3
  ·exact .inl ⟨h3,fun e=>by rw[e]at h4;cases h4⟩
  ·rw[Array.any_eq_true']at h3
   obtain⟨e,he,h4⟩:=h3
   simp only[Bool.and_eq_true,beq_iff_eq]at h4
   exact .inr ⟨e,he,h4⟩
theorem wp_region_told(hm:P.follows .mixedOrders=true){id:Nat}{a:Act}{w:World}(look:Nat→List Nat)(hfit:fitDraw ops look a.tmps.size=true)
  (g0:γ) (Inv:World→γ→Prop) (G:World→γ→World→γ→Prop) (p:Nat→(Nat→Value)→World→γ→Prop)
  (hp:∀i f f' w g w' g',p i f w g→(∀k∈look i,f k=f' k)→G w g w' g'→p i f' w' g') (hG:∀w g,G w g w g) (h0:Inv { w with drawn:=w.drawn+1 } g0)
  (step:∀(i:Nat) (o:Oper) (b:Act) (w:World) (g:γ),ops[i]?=some o→Inv w g→b.tmps.size=a.tmps.size→(∀t,(∀(i:Nat) (o:Oper),ops[i]?=some o→o.dst≠some t)→b.tmps.getD t undef=a.tmps.getD t undef) →
   (∀e∈o.after,Region.binds .any e=true→p e.on (got ops b) w g) →
   o.wp P b w (fun b' w'=>∃v g',b'=b.put o.dst v∧Inv w' g'∧G w g w' g'∧p i (fun k=>if k=i then v else got ops b k) w' g') Q)
  (fin:∀(f:Nat→Value) w g,Inv w g→(∀i,i<ops.size→p i f w g)→Q .normal (laid ops f a ops.size) w):
  (Code.region id ops true).wp P Q a w:=
 wp_region_mid hm (fun _ _ ho=>(fitDraw_at hfit ho).1) (fun _ _ _ _ t hi hj hd he=>((fitDraw_at hfit hj).2.1 t he).2 _ _ hi hd) (fun _ _ t ho hd=>((fitDraw_at hfit ho).2.1 t hd).1) (fun _ _ ho=>(fitDraw_at hfit ho).2.2.1) look (fun _ _ k ho hk=>(fitDraw_at hfit ho).2.2.2 k hk) g0 Inv G p hp hG h0 step
  (fun b w g h1 h2 h3 h4 h5=>by
   have:=fin (got ops b) w g h4 h5
   rwa[←laid_all (fun _ _ t ho hd=>((fitDraw_at hfit ho).2.1 t hd).1) h1 h2 h3]at this)
def left(nod:Nat→Bool)(f:Nat→Value)(i:Nat):Value:=if nod i then undef else f i
def need(o:Oper)(k:Nat):Bool:=o.after.any fun e=>Region.binds .any e&&e.on==k
def noDst(ops:Array Oper)(t:Nat):Bool:=(List.range ops.size).all fun i=>((ops[i]?).bind (·.dst)) != some t
theorem noDst_at{t:Nat}(h:noDst ops t=true)(i:Nat)(o:Oper)(ho:ops[i]?=some o):o.dst≠some t:=by
 have h1:=List.all_eq_true.1 h i (List.mem_range.2 (Array.getElem?_eq_some_iff.1 ho).1)
 rw[ho]at h1
 simpa using h1
def eyes(nod:Nat→Bool)(par:Nat→Nat)(i:Nat):List Nat:=(if nod i then[]else[i])++if par i=i∨nod (par i)=true then[]else[par i]
theorem wp_region_mind(hm:P.follows .mixedOrders=true){id:Nat}{a:Act}{w:World}(nod:Nat→Bool)(par:Nat→Nat)(hfit:fitDraw ops (eyes nod par) a.tmps.size=true)
  (g0:γ) (Inv:World→γ→Prop) (G:World→γ→World→γ→Prop) (V:Nat→Value→Value→World→γ→Prop)
  (hp:∀i v x u g u' g',V i v x u g→G u g u' g'→V i v x u' g') (hG:∀w g,G w g w g) (h0:Inv { w with drawn:=w.drawn+1 } g0)
  (step:∀(i:Nat) (o:Oper) (b:Act) (u:World) (g:γ),ops[i]?=some o→Inv u g→b.tmps.size=a.tmps.size→(∀t,noDst ops t=true→b.tmps.getD t undef=a.tmps.getD t undef) →
   (∀k,need o k=true→V k (left nod (got ops b) k) (left nod (got ops b) (par k)) u g) →
   o.wp P b u (fun b' u'=>∃v g',b'=b.put o.dst v∧Inv u' g'∧G u g u' g'∧V i (if nod i then undef else v) (if par i=i then(if nod i then undef else v)else left nod (got ops b) (par i)) u' g') Q)
  (fin:∀(f:Nat→Value) u g,Inv u g→(∀i,i<ops.size→V i (left nod f i) (left nod f (par i)) u g)→Q .normal (laid ops f a ops.size) u):
  (Code.region id ops true).wp P Q a w:=
 wp_region_told hm (eyes nod par) hfit g0 Inv G (fun i f u g=>V i (left nod f i) (left nod f (par i)) u g)
  (fun i f f' u g u' g' h hl hg=>by
   have e:left nod f i=left nod f' i:=by
    unfold left
    by_cases hn:nod i=true
    ·rw[if_pos hn,if_pos hn]
    ·rw[if_neg hn,if_neg hn]
     exact hl i (by unfold eyes;rw[if_neg hn];simp)
   have e2:left nod f (par i)=left nod f' (par i):=by
    by_cases hpi:par i=i
    ·rw[hpi];exact e
    ·unfold left
     by_cases hn:nod (par i)=true
     ·rw[if_pos hn,if_pos hn]
     ·rw[if_neg hn,if_neg hn]
      exact hl (par i) (by unfold eyes;exact List.mem_append_right _ (by rw[if_neg (fun hh=>hh.elim hpi hn)];exact List.mem_singleton.2 rfl))
   rw[←e,←e2]
   exact hp i _ _ u g u' g' h hg)
  hG h0
  (fun i o b u g ho hi hs hb hd=>by
   refine Oper.wp_mono ?_ (step i o b u g ho hi hs (fun t ht=>hb t (noDst_at ht)) (fun k hk=>by
    unfold need at hk
    rw[Array.any_eq_true']at hk
    obtain⟨e,he,h4⟩:=hk
    simp only[Bool.and_eq_true,beq_iff_eq]at h4
    have:=hd e he h4.1
    rwa[h4.2]at this))
   rintro b' u' ⟨v,g',h1,h2,h3,h4⟩
   refine⟨v,g',h1,h2,h3,?_⟩
   have e:left nod (fun k=>if k=i then v else got ops b k) i=if nod i then undef else v:=by
    unfold left
    simp
   have e2:left nod (fun k=>if k=i then v else got ops b k) (par i)=if par i=i then(if nod i then undef else v)else left nod (got ops b) (par i):=by
    by_cases hpi:par i=i
    ·rw[if_pos hpi,hpi,e]
    ·rw[if_neg hpi]
     show(if nod (par i)=true then undef else if par i=i then v else got ops b (par i))=_
     rw[if_neg hpi]
     rfl
   rw[e,e2]
   exact h4)
  fin
theorem wp_region_vals(hm:P.follows .mixedOrders=true){id:Nat}{a:Act}{w:World}(nod:Nat→Bool)(hfit:fitDraw ops (eyes nod fun i=>i) a.tmps.size=true)
  (Inv:World→Prop) (G:World→World→Prop) (V:Nat→Value→World→Prop)
  (hp:∀i v u u',V i v u→G u u'→V i v u') (hG:∀w,G w w) (h0:Inv { w with drawn:=w.drawn+1 })
  (step:∀(i:Nat) (o:Oper) (b:Act) (u:World),ops[i]?=some o→Inv u→b.tmps.size=a.tmps.size→(∀t,noDst ops t=true→b.tmps.getD t undef=a.tmps.getD t undef) →
   (∀k,need o k=true→V k (left nod (got ops b) k) u) →
   o.wp P b u (fun b' u'=>∃v,b'=b.put o.dst v∧Inv u'∧G u u'∧V i (if nod i then undef else v) u') Q)
  (fin:∀(f:Nat→Value) u,Inv u→(∀i,i<ops.size→V i (left nod f i) u)→Q .normal (laid ops f a ops.size) u):
  (Code.region id ops true).wp P Q a w:=
 wp_region_mind (γ:=Unit) hm nod (fun i=>i) hfit () (fun u _=>Inv u) (fun u _ u' _=>G u u') (fun i v _ u _=>V i v u)
  (fun i v _ u _ u' _ h hg=>hp i v u u' h hg) (fun w _=>hG w) h0
  (fun i o b u _ ho hi hs hb hd=>by
   refine Oper.wp_mono ?_ (step i o b u ho hi hs hb hd)
   rintro b' u' ⟨v,h1,h2,h3,h4⟩
   exact⟨v,(),h1,h2,h3,h4⟩)
  (fun f u _ hi hv=>fin f u hi hv)
theorem wp_val{o:Oper}{b:Act}{u u':World}{v:Value}{K:Act→World→Prop}(h:(execOp b.eval o).run P u=.ok (.value v) u')(hK:K (b.put o.dst v) u'):o.wp P b u K Q:=by
 unfold Oper.wp
 rw[h]
 exact hK
theorem wp_skip{o:Oper}{b:Act}{u u':World}{K:Act→World→Prop}(h:(execOp b.eval o).run P u=.ok .skip u')(hK:K (b.put o.dst undef) u'):o.wp P b u K Q:=by
 unfold Oper.wp
 rw[h]
 exact hK
theorem wp_call{o:Oper}{b:Act}{u:World}{f:FuncId}{args:Array Value}{K:Act→World→Prop}(h:(execOp b.eval o).run P u=.ok (.enter f args) u)(hc:Calls P f args u fun e u'=>∃v,e=.returned v∧K (b.put o.dst v) u'):o.wp P b u K Q:=by
 unfold Oper.wp
 rw[h,Oper.upon_enter]
 refine hc.mono ?_
 rintro e u' ⟨v,rfl,hK⟩
 exact hK
end
end
end Go.Proofs.YtmdncgfheeijaaaGreat
