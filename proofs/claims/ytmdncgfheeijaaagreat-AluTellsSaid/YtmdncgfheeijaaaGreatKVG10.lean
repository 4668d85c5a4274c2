import Derived.Deep.RegionHeld3
import Derived.Tactics
import Derived.Test.YtmdncgfheeijaaaGreatKVG9
namespace Go.Proofs.YtmdncgfheeijaaaGreat
section
open Go.ChangeShapes Go.WideShapes Go.ChangeAt Go.RowKit
set_option maxRecDepth 100000
theorem send_any(b z:Int)(r q x:Bool)(b0:0≤b)(b1:b<4294967296)(z0:0≤z)(z1:z<4294967296)(w:World):Calls Tryz.prog 156 #[.agg #[.int .u32 b,.int .u32 z,.bool r,.bool q,.bool x]] w fun e w'=>e=.returned (.int .u64 (b+z))∧Below w.heap.size w w':=by
 go_enter Tryz.func156,Tryz.ntmps156
 go_wp2
 go_ret
 exact⟨rfl,below_last (Below.refl _ _) _⟩
theorem smay_any(b z:Int)(r q x:Bool)(what:Int)(w:World):Calls Tryz.prog 154 #[.agg #[.int .u32 b,.int .u32 z,.bool r,.bool q,.bool x],.int .i64 what] w fun e w'=>e=.returned (.bool (mayB r q x what))∧Below w.heap.size w w':=by
 have hw:what=0∨what=1∨what=2∨what<0∨3≤what:=by omega
 rcases hw with rfl|rfl|rfl|h|h
 ·go_enter Tryz.func154,Tryz.ntmps154
  go_wp2
  go_ret
  exact⟨rfl,below_last (below_last (Below.refl _ _) _) _⟩
 ·go_enter Tryz.func154,Tryz.ntmps154
  go_wp2
  go_ret
  exact⟨rfl,below_last (below_last (Below.refl _ _) _) _⟩
 ·go_enter Tryz.func154,Tryz.ntmps154
  go_wp2
  go_ret
  exact⟨rfl,below_last (below_last (Below.refl _ _) _) _⟩
 ·have hV:=Lib.hid (show mayB r q x what=false by unfold mayB;rw[if_neg (by omega),if_neg (by omega),if_neg (by omega)])
  go_enter Tryz.func154,Tryz.ntmps154
  go_wp2
  go_ret
  exact⟨by rw[hV.out];rfl,below_last (below_last (Below.refl _ _) _) _⟩
 ·have hV:=Lib.hid (show mayB r q x what=false by unfold mayB;rw[if_neg (by omega),if_neg (by omega),if_neg (by omega)])
  go_enter Tryz.func154,Tryz.ntmps154
  go_wp2
  go_ret
  exact⟨by rw[hV.out];rfl,below_last (below_last (Below.refl _ _) _) _⟩
theorem sright_any(b z:Int)(r q x:Bool)(b0:0≤b)(b1:b<4294967296)(z0:0≤z)(z1:z<4294967296)(w:World):Calls Tryz.prog 155 #[.agg #[.int .u32 b,.int .u32 z,.bool r,.bool q,.bool x]] w fun e w'=>e=.returned (.bool (segR b z))∧Below w.heap.size w w':=by
 go_enter Tryz.func155,Tryz.ntmps155
 go_wp2_with (go_at_call 156;refine(send_any b z _ _ _ b0 b1 z0 z1 _).mono ?_;rintro e w1 ⟨rfl,hb1⟩;obtain⟨hc,hz⟩:=bcell hb1)
 go_ret
 exact⟨rfl,below_next (Below.refl _ _) hb1⟩
set_option maxHeartbeats 8000000
theorem sat_any(b z:Int)(r q x:Bool)(off n what:Int)(b0:0≤b)(b1:b<4294967296)(z0:0≤z)(z1:z<4294967296)(o0:0≤off)(o1:off<4294967296)(w:World):Calls Tryz.prog 148 #[.agg #[.int .u32 b,.int .u32 z,.bool r,.bool q,.bool x],.int .u32 off,.int .i64 n,.int .i64 what] w fun e w'=>e=.returned (.tuple #[.int .u32 (atV b z r q x off n what),.int .i64 (atE b z r q x off n what)])∧Below w.heap.size w w':=by
 cases hm:mayB r q x what
 ·have hV:=Lib.hid (show atV b z r q x off n what=0 by unfold atV;rw[hm];rfl)
  have hE:=Lib.hid (show atE b z r q x off n what=25 by unfold atE;rw[hm];rfl)
  have smay:∀w,Calls Tryz.prog 154 #[.agg #[.int .u32 b,.int .u32 z,.bool r,.bool q,.bool x],.int .i64 what] w fun e w'=>e=.returned (.bool false)∧Below w.heap.size w w':=fun w=>by
   have h:=smay_any b z r q x what w
   rw[hm]at h
   exact h
  have sright:=sright_any b z r q x b0 b1 z0 z1
  clear hm
  go_enter Tryz.func148,Tryz.ntmps148
  go_wp2_with (first|(go_at_call 154;refine(smay _).mono ?_;rintro e w1 ⟨rfl,hb1⟩;obtain⟨hc,hz⟩:=bcell hb1;(have hs1:=bsize hb1))|(go_at_call 155;refine(sright _).mono ?_;rintro e w2 ⟨rfl,hb2⟩;obtain⟨hc2,hz2⟩:=bcell hb2;(have hs2:=hb2.size)))
  go_ret2
  exact⟨by rw[hV.out,hE.out];rfl,by first|exact(below_next (Below.refl _ _) hb1).trans (hb2.mono (by have:=hs1;omega))|exact below_next (Below.refl _ _) hb1⟩
 ·have smay:∀w,Calls Tryz.prog 154 #[.agg #[.int .u32 b,.int .u32 z,.bool r,.bool q,.bool x],.int .i64 what] w fun e w'=>e=.returned (.bool true)∧Below w.heap.size w w':=fun w=>by
   have h:=smay_any b z r q x what w
   rw[hm]at h
   exact h
  have hyes:fitB b z off n=true→atV b z r q x off n what=b+off∧atE b z r q x off n what=0:=by
   intro h2;unfold atV atE;rw[hm,h2];exact⟨rfl,rfl⟩
  have hun:fitB b z off n=false→atV b z r q x off n what=0∧atE b z r q x off n what=24:=by
   intro h2;unfold atV atE;rw[hm,h2];exact⟨rfl,rfl⟩
  clear hm
  obtain⟨c,hcl⟩:∃c,c=clampN n:=⟨_,rfl⟩
  have hn:(n<1∧c=1)∨(1≤n∧n≤16∧c=n)∨(16<n∧c=16):=by
   rw[hcl];unfold clampN;split<;>(try split)<;>omega
  have hf:(z<off+c∧fitB b z off n=false)∨(off+c≤z∧segR b z=false∧fitB b z off n=false)∨(off+c≤z∧segR b z=true∧fitB b z off n=true∧b+off<4294967296):=by
   rw[hcl]
   have c0:=clampN_lo n
   unfold fitB
   by_cases h:off+clampN n≤z
   ·cases hs:segR b z
    ·exact .inr (.inl ⟨h,rfl,rfl⟩)
    ·unfold segR at hs
     simp only[decide_eq_true_eq]at hs
     exact .inr (.inr ⟨h,rfl,by rw[decide_eq_true h];rfl,by omega⟩)
   ·exact .inl ⟨by omega,by rw[decide_eq_false h,Bool.and_false]⟩
  have sr:∀v:Bool,segR b z=v→∀w,Calls Tryz.prog 155 #[.agg #[.int .u32 b,.int .u32 z,.bool r,.bool q,.bool x]] w fun e w'=>e=.returned (.bool v)∧Below w.heap.size w w':=fun v hv w=>by
   have h:=sright_any b z r q x b0 b1 z0 z1 w
   rw[hv]at h
   exact h
  clear hcl
  rcases hf with⟨hl,hf⟩|⟨hl,hs,hf⟩|⟨hl,hs,hf,hl2⟩
  ·obtain⟨hv,he⟩:=hun hf
   have hV:=Lib.hid hv
   have hE:=Lib.hid he
   have sright:=sright_any b z r q x b0 b1 z0 z1
   clear hyes hun hv he hf sr
   rcases hn with⟨hn,rfl⟩|⟨hn,hn',rfl⟩|⟨hn,rfl⟩
   ·go_enter Tryz.func148,Tryz.ntmps148
    go_wp2_with (first|(go_at_call 154;refine(smay _).mono ?_;rintro e w1 ⟨rfl,hb1⟩;obtain⟨hc,hz⟩:=bcell hb1;(have hs1:=bsize hb1))|(go_at_call 155;refine(sright _).mono ?_;rintro e w2 ⟨rfl,hb2⟩;obtain⟨hc2,hz2⟩:=bcell hb2;(have hs2:=hb2.size)))
    go_ret2
    exact⟨by rw[hV.out,hE.out];rfl,by first|exact(below_next (Below.refl _ _) hb1).trans (hb2.mono (by have:=hs1;omega))|exact below_next (Below.refl _ _) hb1⟩
   ·go_enter Tryz.func148,Tryz.ntmps148
    go_wp2_with (first|(go_at_call 154;refine(smay _).mono ?_;rintro e w1 ⟨rfl,hb1⟩;obtain⟨hc,hz⟩:=bcell hb1;(have hs1:=bsize hb1))|(go_at_call 155;refine(sright _).mono ?_;rintro e w2 ⟨rfl,hb2⟩;obtain⟨hc2,hz2⟩:=bcell hb2;(have hs2:=hb2.size)))
    go_ret2
    exact⟨by rw[hV.out,hE.out];rfl,by first|exact(below_next (Below.refl _ _) hb1).trans (hb2.mono (by have:=hs1;omega))|exact below_next (Below.refl _ _) hb1⟩
   ·go_enter Tryz.func148,Tryz.ntmps148
    go_wp2_with (first|(go_at_call 154;refine(smay _).mono ?_;rintro e w1 ⟨rfl,hb1⟩;obtain⟨hc,hz⟩:=bcell hb1;(have hs1:=bsize hb1))|(go_at_call 155;refine(sright _).mono ?_;rintro e w2 ⟨rfl,hb2⟩;obtain⟨hc2,hz2⟩:=bcell hb2;(have hs2:=hb2.size)))
    go_ret2
    exact⟨by rw[hV.out,hE.out];rfl,by first|exact(below_next (Below.refl _ _) hb1).trans (hb2.mono (by have:=hs1;omega))|exact below_next (Below.refl _ _) hb1⟩
  ·obtain⟨hv,he⟩:=hun hf
   have hV:=Lib.hid hv
   have hE:=Lib.hid he
   have sright:=sr _ hs
   clear hyes hun hv he hf sr hs
   rcases hn with⟨hn,rfl⟩|⟨hn,hn',rfl⟩|⟨hn,rfl⟩
   ·go_enter Tryz.func148,Tryz.ntmps148
    go_wp2_with (first|(go_at_call 154;refine(smay _).mono ?_;rintro e w1 ⟨rfl,hb1⟩;obtain⟨hc,hz⟩:=bcell hb1;(have hs1:=bsize hb1))|(go_at_call 155;refine(sright _).mono ?_;rintro e w2 ⟨rfl,hb2⟩;obtain⟨hc2,hz2⟩:=bcell hb2;(have hs2:=hb2.size)))
    go_ret2
    exact⟨by rw[hV.out,hE.out];rfl,by first|exact(below_next (Below.refl _ _) hb1).trans (hb2.mono (by have:=hs1;omega))|exact below_next (Below.refl _ _) hb1⟩
   ·go_enter Tryz.func148,Tryz.ntmps148
    go_wp2_with (first|(go_at_call 154;refine(smay _).mono ?_;rintro e w1 ⟨rfl,hb1⟩;obtain⟨hc,hz⟩:=bcell hb1;(have hs1:=bsize hb1))|(go_at_call 155;refine(sright _).mono ?_;rintro e w2 ⟨rfl,hb2⟩;obtain⟨hc2,hz2⟩:=bcell hb2;(have hs2:=hb2.size)))
    go_ret2
    exact⟨by rw[hV.out,hE.out];rfl,by first|exact(below_next (Below.refl _ _) hb1).trans (hb2.mono (by have:=hs1;omega))|exact below_next (Below.refl _ _) hb1⟩
   ·go_enter Tryz.func148,Tryz.ntmps148
    go_wp2_with (first|(go_at_call 154;refine(smay _).mono ?_;rintro e w1 ⟨rfl,hb1⟩;obtain⟨hc,hz⟩:=bcell hb1;(have hs1:=bsize hb1))|(go_at_call 155;refine(sright _).mono ?_;rintro e w2 ⟨rfl,hb2⟩;obtain⟨hc2,hz2⟩:=bcell hb2;(have hs2:=hb2.size)))
    go_ret2
    exact⟨by rw[hV.out,hE.out];rfl,by first|exact(below_next (Below.refl _ _) hb1).trans (hb2.mono (by have:=hs1;omega))|exact below_next (Below.refl _ _) hb1⟩
  ·obtain⟨hv,he⟩:=hyes hf
   have hV:=Lib.hid hv
   have hE:=Lib.hid he
   have sright:=sr _ hs
   clear hyes hun hv he hf sr hs
   rcases hn with⟨hn,rfl⟩|⟨hn,hn',rfl⟩|⟨hn,rfl⟩
   ·go_enter Tryz.func148,Tryz.ntmps148
    go_wp2_with (first|(go_at_call 154;refine(smay _).mono ?_;rintro e w1 ⟨rfl,hb1⟩;obtain⟨hc,hz⟩:=bcell hb1;(have hs1:=bsize hb1))|(go_at_call 155;refine(sright _).mono ?_;rintro e w2 ⟨rfl,hb2⟩;obtain⟨hc2,hz2⟩:=bcell hb2;(have hs2:=hb2.size)))
    go_ret2
    exact⟨by rw[hV.out,hE.out];rfl,by first|exact(below_next (Below.refl _ _) hb1).trans (hb2.mono (by have:=hs1;omega))|exact below_next (Below.refl _ _) hb1⟩
   ·go_enter Tryz.func148,Tryz.ntmps148
    go_wp2_with (first|(go_at_call 154;refine(smay _).mono ?_;rintro e w1 ⟨rfl,hb1⟩;obtain⟨hc,hz⟩:=bcell hb1;(have hs1:=bsize hb1))|(go_at_call 155;refine(sright _).mono ?_;rintro e w2 ⟨rfl,hb2⟩;obtain⟨hc2,hz2⟩:=bcell hb2;(have hs2:=hb2.size)))
    go_ret2
    exact⟨by rw[hV.out,hE.out];rfl,by first|exact(below_next (Below.refl _ _) hb1).trans (hb2.mono (by have:=hs1;omega))|exact below_next (Below.refl _ _) hb1⟩
   ·go_enter Tryz.func148,Tryz.ntmps148
    go_wp2_with (first|(go_at_call 154;refine(smay _).mono ?_;rintro e w1 ⟨rfl,hb1⟩;obtain⟨hc,hz⟩:=bcell hb1;(have hs1:=bsize hb1))|(go_at_call 155;refine(sright _).mono ?_;rintro e w2 ⟨rfl,hb2⟩;obtain⟨hc2,hz2⟩:=bcell hb2;(have hs2:=hb2.size)))
    go_ret2
    exact⟨by rw[hV.out,hE.out];rfl,by first|exact(below_next (Below.refl _ _) hb1).trans (hb2.mono (by have:=hs1;omega))|exact below_next (Below.refl _ _) hb1⟩
end
section
open Go.ChangeShapes Go.WideShapes Go.ChangeAt Go.RowKit
set_option maxRecDepth 100000
structure MIn (w0 w:World) (p:Nat) (F:Nat→Prop) (g:Int→Int) (pg:Int→Bool):Prop where
 own:∀k,F k→w0.heap.size≤k
 mem:PMem w p F g pg
 low:Below w0.heap.size w0 w
variable {w0 w w':World} {p:Nat} {F:Nat→Prop} {g:Int→Int} {pg:Int→Bool}
theorem MIn.but{G:Nat→Prop}(h:MIn w0 w p F g pg)(hb:But G w w')(hG:∀k,G k→w0.heap.size≤k∧¬F k):MIn w0 w' p F g pg:=
 ⟨h.own,h.mem.but hb (fun k hk hg=>(hG k hg).2 hk),hb.below h.low (fun k hk=>(hG k hk).1) h.low.size⟩
theorem MIn.next(h:MIn w0 w p F g pg)(hb:Below w.heap.size w w'):MIn w0 w' p F g pg:=h.but (G:=fun _=>False) (But.of_below hb) (fun _ h=>h.elim)
theorem MIn.alloc(h:MIn w0 w p F g pg)(o:Obj):MIn w0 (w.alloc o) p F g pg:=h.next (below_last (Below.refl _ _) _)
theorem MIn.drew(h:MIn w0 w p F g pg):MIn w0 w.drew p F g pg:=h.next ((Below.refl _ _).drew)
theorem min_new(w:World)(hlow:Below w0.heap.size w0 w):Calls Tryz.prog 34 #[] w fun e w'=>∃(p:Nat) (F:Nat→Prop),e=.returned (.pointer (some ⟨p,0,none⟩))∧MIn w0 w' p F (fun _=>0) (fun _=>false)∧(∀k,F k→w.heap.size≤k)∧Below w.heap.size w w':=
 (mnew_any w).mono fun _ _ ⟨p,F,he,hF,hm,hb⟩=>⟨p,F,he,⟨fun k hk=>Nat.le_trans hlow.size (hF k hk),hm,hlow.trans (hb.mono hlow.size)⟩,hF,hb⟩
theorem min_write(h:MIn w0 w p F g pg)(a:Int)(v:Value)(L:Nat)(bs:Nat→Int)(a0:0≤a)(a1:a<4294967296)(hL:L<2147483648)(hb:∀i,0≤bs i∧bs i<256)(hs:Slc .u8 w v L bs)(hv:0<L→∀k,v.ownBlock=some k→¬F k):
  Calls Tryz.prog 35 #[.pointer (some ⟨p,0,none⟩),.int .u32 a,v] w fun e w'=>∃F',e=.returned (.tuple #[])∧MIn w0 w' p F' (writeG g a bs L) (writeP pg a L)∧(∀k,F' k→F k∨w.heap.size≤k)∧But F w w':=
 (mwrite_any p F g pg a v L bs a0 a1 hL hb w h.mem hs hv).mono fun _ _ ⟨F',he,hF,hm,hb⟩=>⟨F',he,⟨fun k hk=>(hF k hk).elim (h.own k) (fun q=>Nat.le_trans h.low.size q),hm,hb.below h.low h.own h.low.size⟩,hF,hb⟩
end
section
open Go.ChangeShapes Go.WideShapes Go.ChangeAt Go.RowKit Go.Maps Go.Deep
set_option maxRecDepth 100000
def fillN(k:Int):Nat→Int
 |0=>k
 |i+1=>(fillN k i*1664525+1013904223)%4294967296
def fillB(k:Int)(i:Nat):Int:=fillN k (i+1)/16777216
theorem fillN_ok(k:Int)(k0:0≤k)(k1:k<4294967296):∀i,0≤fillN k i∧fillN k i<4294967296
 |0=>⟨k0,k1⟩
 |i+1=>by unfold fillN;omega
theorem fillB_ok(k:Int)(i:Nat):0≤fillB k i∧fillB k i<256:=by
 unfold fillB fillN
 omega
attribute [local go_sem] isSome_setCell
set_option maxHeartbeats 2000000
theorem fill_any(N:Nat)(hN:N≤1048576)(k:Int)(k0:0≤k)(k1:k<4294967296)(w:World):
  Calls Tryz.prog 36 #[.int .i64 (N:Int),.int .u32 k] w fun e w'=>∃v,e=.returned v∧v.ownBlock=some w.heap.size∧Slc .u8 w' v N (fillB k)∧Below w.heap.size w w':=by
 have hmk:=run_make_row' (P:=Tryz.prog) 37 5 (.int .u8 0) 1 Tryz.underlying37 info_u8 rfl .i64 .i64 N (by omega) (by omega)
 go_enter Tryz.func36,Tryz.ntmps36
 go_wp2_with fail
 clear hmk
 have HB1:=Lib.hid (show Below w.heap.size w (w.alloc (.cells (madeCells #[.int .u8 0] N) 5))from below_last (Below.refl _ _) _)
 have hr0:∀i,i<N→(w.alloc (.cells (madeCells #[.int .u8 0] N) 5)).cell? ⟨w.heap.size,i,none⟩=some (.int .u8 0):=fun i hi=>by
  exact(World.rowIs_made w (.int .u8 0) N 5).cell hi
 have hf0:∀i,(w.alloc (.cells (madeCells #[.int .u8 0] N) 5)).frozen? ⟨w.heap.size,i,none⟩=false:=fun i=>by simp
 have HZ0:=Lib.hid (show w.heap.size<(w.alloc (.cells (madeCells #[.int .u8 0] N) 5)).heap.size by simp)
 generalize w.alloc (.cells (madeCells #[.int .u8 0] N) 5)=W at *
 go_loopw [1,6] (fun v1 v wr=>∃i:Nat,i≤N∧v=.int .i64 i∧v1=.int .u32 (fillN k i)∧But (·=w.heap.size) W wr∧(∀j,wr.frozen? ⟨w.heap.size,j,none⟩=false)∧(∀j,j<N→wr.cell? ⟨w.heap.size,j,none⟩=some (.int .u8 (if j<i then fillB k j else 0)))) (fun _ v _=>N-(intOf v).toNat)
 case atStart=>exact⟨0,by omega,rfl,rfl,But.refl _ _,hf0,fun j hj=>by rw[if_neg (by omega)];exact hr0 j hj⟩
 case round=>
  obtain⟨i,hi,rfl,rfl,hr,hfz,hcells⟩:=hrel
  have hx:=fillN_ok k k0 k1 i
  obtain⟨x,hX⟩:∃x,fillN k i=x:=⟨_,rfl⟩
  have HX:=Lib.hid (show fillN k (i+1)=(x*1664525+1013904223)%4294967296 by rw[←hX];rfl)
  rw[hX]at hx ⊢
  clear hX
  obtain⟨wo,rfl⟩:∃wo:World,wo=wr:=⟨_,rfl⟩
  by_cases hlt:i<N
  ·have hcell:=hcells i hlt
   rw[if_neg (by omega)]at hcell
   have hd:decide ((i:Int)<(N:Int))=true:=decide_eq_true (by omega)
   have HC:=Lib.hid hcells
   have hfi:=hfz i
   have HF:=Lib.hid hfz
   have HR:=Lib.hid hr
   have h8:IntKind.u8.wrap ((x*1664525+1013904223)%4294967296/16777216)=fillB k i:=by
    unfold fillB
    rw[HX.out,IntKind.wrap_u8]
    omega
   have hxx:(x*1664525%4294967296+1013904223)%4294967296=(x*1664525+1013904223)%4294967296:=by omega
   clear hcells hfz hr
   go_wp2_with fail
   go_roundw
   case rel=>exact⟨i+1,by omega,by go_num,by rw[HX.out,←hxx],HR.out.setCell (by simp) _,fun j=>by rw[World.frozen?_setCell];exact HF.out j,fun j hj=>by
    by_cases hji:j=i
    ·subst hji
     rw[if_pos (by omega)]
     exact set_same _ hcell
    ·have h2:=HC.out j hj
     rw[set_other _ (by simp;try omega) h2]
     by_cases hlt2:j<i
     ·rw[if_pos hlt2,if_pos (by omega)]
     ·rw[if_neg hlt2,if_neg (by omega)]⟩
   case measure=>simp[intOf];try omega
  ·obtain rfl:i=N:=by omega
   have hd:decide ((i:Int)<(i:Int))=false:=by simp
   have HC:=Lib.hid hcells
   have HR:=Lib.hid hr
   clear hcells hfz hr
   go_wp2_with fail
   go_ret
   refine⟨_,rfl,rfl,.inr ⟨_,_,rfl,Nat.le_refl _,fun j hj=>?_⟩,HR.out.below HB1.out (fun q hq=>by omega) (by have:=HB1.out.size;omega)⟩
   rw[show(⟨w.heap.size,0,none⟩:Addr).add j=⟨w.heap.size,j,none⟩by unfold Addr.add;split<;>simp_all]
   have h2:=HC.out j hj
   rw[if_pos hj]at h2
   exact h2
theorem fill256_any(k:Int)(k0:0≤k)(k1:k<4294967296)(w:World):
  Calls Tryz.prog 36 #[.int .i64 256,.int .u32 k] w fun e w'=>∃v,e=.returned v∧v.ownBlock=some w.heap.size∧Slc .u8 w' v 256 (fillB k)∧Below w.heap.size w w':=fill_any 256 (by decide) k k0 k1 w
end
section
open Go.RowKit
set_option maxRecDepth 100000
theorem slc_nil8(u:World):Slc .u8 u (.slice none 0 0) 0 (fun _=>0):=by
 unfold Slc
 exact Or.inl ⟨rfl,rfl⟩
end
section
open Go
set_option maxRecDepth 100000
theorem wpList_met{P:Program}{ops:Array Oper}{Q:Exit→Act→World→Prop}{a:Act}{w:World}{rest:List Oper}{d:Option Tmp}{op:Op}{ty:TypeId}{pos:String}{af:Array Edge}{g:Option (Nat×Bool)}(hw:Region.wanted (Oper.mk d op ty pos af g) (yielded ops a.tmps)=true)
  (h:wpList P ops Q (Oper.mk d op ty pos af none :: rest) a w):wpList P ops Q (Oper.mk d op ty pos af g :: rest) a w:=by
 unfold wpList at h ⊢
 rw[if_pos hw]
 rw[if_pos (by simp[Region.wanted])]at h
 exact h
end
end Go.Proofs.YtmdncgfheeijaaaGreat
