import Derived.BigQuiet
import Derived.Deep.QuietTactic
import Derived.Laws.BitsAllLaws
import Derived.KernelRfl
import Derived.Deep.DeepCutAuto
import Derived.Test.YtmdncgfheeijaaaGreatKVG13
namespace Go.Proofs.YtmdncgfheeijaaaGreat
open Go.ChangeShapes Go.WideShapes Go.ChangeAt Go.RowKit
section
set_option maxRecDepth 100000
def frmV(f:Frm):Value:=.agg #[.int .i64 f.op,.int .i64 f.cond,.int .i64 f.size,.string ⟨f.how.toArray⟩,.int .i64 f.c]
def fstV(x:Frm×Bool×Bool):Value:=.tuple #[frmV x.1,.bool x.2.1,.bool x.2.2]
theorem and1(z:Int)(h0:0≤z)(h1:z<256):bits .and .u8 z 1=z%2:=by
 obtain⟨k,rfl⟩:∃k:Nat,z=(k:Int):=⟨z.toNat,by omega⟩
 have:=u8_and_nat k 1 (by omega) (by omega)
 rw[show((1:Nat):Int)=1 from rfl]at this
 rw[this,show k &&& 1=k%2 from Nat.and_two_pow_sub_one_eq_mod k 1]
 rfl
theorem and15(z:Int)(h0:0≤z)(h1:z<256):bits .and .u8 z 15=z%16:=by
 obtain⟨k,rfl⟩:∃k:Nat,z=(k:Int):=⟨z.toNat,by omega⟩
 have:=u8_and_nat k 15 (by omega) (by omega)
 rw[show((15:Nat):Int)=15 from rfl]at this
 rw[this,show k &&& 15=k%16 from Nat.and_two_pow_sub_one_eq_mod k 4]
 rfl
theorem size4_any(c:Int)(c0:0≤c)(c1:c<256)(w:World):Calls Tryz.prog 44 #[.int .u8 c] w fun e w'=>e=.returned (.int .i64 (1+3*(c%2)))∧w=w':=by
 have a1:=and1 c c0 c1
 go_enter Tryz.func44,Tryz.ntmps44
 go_wp2
 go_ret
 exact⟨rfl,rfl⟩
theorem is_any(c op size:Int)(how:ByteArray)(c0:0≤c)(c1:c<256)(w:World):Calls Tryz.prog 45 #[.int .u8 c,.int .i64 op,.int .i64 size,.string how] w fun e w'=>e=.returned (.tuple #[.agg #[.int .i64 op,.int .i64 0,.int .i64 size,.string how,.int .i64 (c%8)],.bool (op != 0),.bool false])∧Below w.heap.size w w':=by
 have a1:=and7 c c0 c1
 have a2:IntKind.i64.wrap (c%8)=c%8:=by rw[IntKind.wrap_i64];omega
 go_enter Tryz.func45,Tryz.ntmps45
 go_wp2
 go_returns
 exact⟨rfl,below_last (Below.refl _ _) _⟩
theorem alu_any(n:Int)(n0:0≤n)(n1:n<8)(w:World):Calls Tryz.prog 46 #[.int .i64 n] w fun e w'=>e=.returned (.int .i64 (grpF alus n))∧Below w.heap.size w w':=by
 have h8:n=0∨n=1∨n=2∨n=3∨n=4∨n=5∨n=6∨n=7:=by omega
 rcases h8 with rfl|rfl|rfl|rfl|rfl|rfl|rfl|rfl
 all_goals
  go_enter Tryz.func46,Tryz.ntmps46
  go_wp2
  go_ret
  exact⟨rfl,below_last (Below.refl _ _) _⟩
theorem group_any(l:List Int)(reg:Int)(ad:Addr)(r0:0≤reg)(r1:reg<8)(_:l.length≤100)(w:World)(hc:∀i,i<l.length→w.cell? (ad.add i)=some (.int .i64 (lst l i))):Calls Tryz.prog 76 #[.slice (some ad) l.length l.length,.int .i64 reg] w fun e w'=>e=.returned (.int .i64 (grpF l reg))∧w=w':=by
 obtain⟨r,rfl⟩:∃r:Nat,reg=(r:Int):=⟨reg.toNat,by omega⟩
 by_cases h:r<l.length
 ·have hr:=hc r h
  have hV:=Lib.hid (show grpF l (r:Int)=lst l r by unfold grpF lst;rw[Int.toNat_natCast])
  have hd:decide ((r:Int)<(l.length:Int))=true:=decide_eq_true (by omega)
  have hi:(r:Int)<(l.length:Int):=by omega
  clear hc
  go_enter Tryz.func76,Tryz.ntmps76
  go_wp2
  go_ret
  exact⟨by rw[hV.out];rfl,rfl⟩
 ·have hV:=Lib.hid (show grpF l (r:Int)=0 by unfold grpF;rw[Int.toNat_natCast,List.getD_eq_getElem?_getD,List.getElem?_eq_none (by omega)];rfl)
  have hd:decide ((r:Int)<(l.length:Int))=false:=decide_eq_false (by omega)
  clear hc
  go_enter Tryz.func76,Tryz.ntmps76
  go_wp2
  go_ret
  exact⟨by rw[hV.out];rfl,rfl⟩
theorem shifts_any(w:World):Calls Tryz.prog 48 #[] w fun e w'=>e=.returned (.slice (some ⟨w.heap.size,0,none⟩) 8 8)∧w'=w.alloc (.cells #[.int .i64 26,.int .i64 27,.int .i64 0,.int .i64 0,.int .i64 28,.int .i64 29,.int .i64 0,.int .i64 30] 3):=by
 go_enter Tryz.func48,Tryz.ntmps48
 go_wp2
 go_ret
 exact⟨rfl,rfl⟩
attribute [local go_sem] isSome_setCell
theorem by_any(c reg size:Int)(l:List Int)(how:List UInt8)(ad:Addr)(c0:0≤c)(c1:c<256)(_:-1≤reg)(r1:reg<8)(hl:l.length≤100)(w:World)(hc:∀i,i<l.length→w.cell? (ad.add i)=some (.int .i64 (lst l i))):
  Calls Tryz.prog 47 #[.int .u8 c,.int .i64 reg,.slice (some ad) l.length l.length,.int .i64 size,.string ⟨how.toArray⟩] w fun e w'=>e=.returned (fstV (byF c reg l size how))∧Below w.heap.size w w':=by
 by_cases h:reg<0
 ·have hV:=Lib.hid (show byF c reg l size how=(nilF,false,true)by unfold byF;rw[if_pos h])
  have hd:decide (reg<0)=true:=decide_eq_true h
  clear hc
  go_enter Tryz.func47,Tryz.ntmps47
  go_wp2
  go_returns
  exact⟨by rw[hV.out];rfl,below_last (Below.refl _ _) _⟩
 ·have hV:=Lib.hid (show byF c reg l size how=isF c (grpF l reg) size how by unfold byF;rw[if_neg h])
  have hd:decide (reg<0)=false:=decide_eq_false h
  have HC:=Lib.hid hc
  clear hc
  go_enter Tryz.func47,Tryz.ntmps47
  go_wp2_with fail
  refine(group_any l reg ad (by omega) r1 hl _ (fun i hi=>cell_call (below_last (Below.refl _ _) _) (HC.out i hi))).mono ?_
  rintro e w1 ⟨rfl,rfl⟩
  go_wp2_with fail
  refine(is_any c _ size _ c0 c1 _).mono ?_
  rintro e w1 ⟨rfl,B1⟩
  have HB:=Lib.hid (below_step (below_last (Below.refl _ _) _) B1)
  obtain⟨q1,hz⟩:=bcell B1
  clear B1
  go_wp2_with fail
  refine bodyPost_ret (v:=.tuple #[.agg #[.int .i64 (grpF l reg),.int .i64 0,.int .i64 size,.string ⟨how.toArray⟩,.int .i64 (c%8)],.bool (grpF l reg != 0),.bool false]) (by simp[results,Tryz.results47,go_sem,q1]) rfl ⟨by rw[hV.out];rfl,?_⟩
  exact((((HB.out.setCell (Nat.le_refl _) _).setCell (Nat.le_refl _) _).setCell (Nat.le_refl _) _).setCell (Nat.le_refl _) _).setCell (Nat.le_refl _) _
def fstL(x:Frm×Bool×Bool):Value:=.tuple #[.agg #[.int .i64 x.1.op,.int .i64 x.1.cond,.int .i64 x.1.size,.string ⟨x.1.how.toArray⟩,.int .i64 x.1.c],.bool x.2.1,.bool x.2.2]
theorem by_new(c reg size:Int)(l:List Int)(how:List UInt8)(T:TypeId)(c0:0≤c)(c1:c<256)(r0:-1≤reg)(r1:reg<8)(hl:l.length≤100)(x:Frm×Bool×Bool)(hx:Hid (byF c reg l size how=x))(w:World)(B n:Nat)(C:Array Value)(s:ByteArray)(hB:B=w.heap.size)(hn:n=l.length)(hC:C=(l.map (Value.int .i64)).toArray)(hs:s=⟨how.toArray⟩):
  Calls Tryz.prog 47 #[.int .u8 c,.int .i64 reg,.slice (some ⟨B,0,none⟩) n n,.int .i64 size,.string s] (w.alloc (.cells C T)) fun e w'=>e=.returned (.tuple #[.agg #[.int .i64 x.1.op,.int .i64 x.1.cond,.int .i64 x.1.size,.string ⟨x.1.how.toArray⟩,.int .i64 x.1.c],.bool x.2.1,.bool x.2.2])∧Below (w.alloc (.cells C T)).heap.size (w.alloc (.cells C T)) w':=by
 subst hB hn hC hs
 exact(by_any c reg size l how ⟨w.heap.size,0,none⟩ c0 c1 r0 r1 hl _ (fun i hi=>by
  rw[addr_add,Nat.zero_add,World.cell?_alloc_new]
  simp[lst,List.getD_eq_getElem?_getD,List.getElem?_eq_getElem hi])).mono fun e w' ⟨he,hb⟩=>⟨by rw[he,hx.out];rfl,hb⟩
theorem five_kept{w w1:World}{a b c d e:Value}{T:TypeId}(h:Below (w.heap.size+1) (w.alloc (.cells #[a,b,c,d,e] T)) w1):
  w1.cell? ⟨w.heap.size,0,none⟩=some a∧w1.cell? ⟨w.heap.size,1,none⟩=some b∧w1.cell? ⟨w.heap.size,2,none⟩=some c∧w1.cell? ⟨w.heap.size,3,none⟩=some d∧w1.cell? ⟨w.heap.size,4,none⟩=some e∧∀i,w1.frozen? ⟨w.heap.size,i,none⟩=false:=by
 refine⟨?_,?_,?_,?_,?_,fun i=>by rw[h.frozen (by simp)];simp⟩
 all_goals rw[h.cell (by simp),World.cell?_alloc_new];rfl
theorem five_kept0{w w1:World}{a b c d e:Value}{T:TypeId}(h:Below (w.alloc (.cells #[a,b,c,d,e] T)).heap.size (w.alloc (.cells #[a,b,c,d,e] T)) w1):Below (w.heap.size+1) (w.alloc (.cells #[a,b,c,d,e] T)) w1:=by
 have e':(w.alloc (.cells #[a,b,c,d,e] T)).heap.size=w.heap.size+1:=by simp
 rwa[e']at h
theorem five_kept1{w w1:World}{a b c d e:Value}{T:TypeId}{o:Obj}(h:Below ((w.alloc (.cells #[a,b,c,d,e] T)).alloc o).heap.size ((w.alloc (.cells #[a,b,c,d,e] T)).alloc o) w1):Below (w.heap.size+1) (w.alloc (.cells #[a,b,c,d,e] T)) w1:=by
 have:=((Below.refl (w.heap.size+1) (w.alloc (.cells #[a,b,c,d,e] T))).alloc (by simp) o).trans (h.mono (by simp))
 exact this
theorem below5{w w1:World}{B:Nat}{a b c d e:Value}(h:Below B w w1)(o:Nat)(ho:B≤o):Below B w (((((w1.setCell ⟨o,0,none⟩ a).setCell ⟨o,1,none⟩ b).setCell ⟨o,2,none⟩ c).setCell ⟨o,3,none⟩ d).setCell ⟨o,4,none⟩ e):=
 ((((h.setCell ho _).setCell ho _).setCell ho _).setCell ho _).setCell ho _
end
set_option maxRecDepth 100000
def regO(k r:Int):Opd:=⟨k,r,-1,-1,1,0⟩
def numO(v:Int):Opd:=⟨4,0,-1,-1,1,v⟩
def turnO(o:Opd)(k:Int):Opd:=if o.kind=1 then regO k o.reg else o
def smallO(size r:Int):Opd:=if size=1 then regO 2 r else regO 1 r
def isRM(c:UInt8):Bool:=c==69 || c==71 || c==103 || c==101 || c==88 || c==89
def hasF(l:List UInt8):Bool:=l.any isRM
theorem rnumber_any(v:Int)(w:World):Calls Tryz.prog 54 #[.int .u32 v] w fun e w'=>e=.returned (opV (numO v))∧Below w.heap.size w w':=by
 go_enter Tryz.func54,Tryz.ntmps54
 go_wp2_with (go_at_call 23;refine(rnone_any _).mono ?_;rintro e w' ⟨rfl,rfl⟩)
 go_returns
 exact⟨rfl,below_last (below_last (below_last (Below.refl _ _) _) _) _⟩
theorem rregister_below(k r:Int)(w:World):Calls Tryz.prog 49 #[.int .i64 k,.int .i64 r] w fun e w'=>e=.returned (opV (regO k r))∧Below w.heap.size w w':=
 (rregister_any k r w).mono fun e w' ⟨h1,h2⟩=>⟨h1,by rw[h2];exact below_last (below_last (below_last (Below.refl _ _) _) _) _⟩
theorem rsmall_any(size r:Int)(w:World):Calls Tryz.prog 53 #[.int .i64 size,.int .i64 r] w fun e w'=>e=.returned (opV (smallO size r))∧Below w.heap.size w w':=by
 by_cases h:size=1
 ·subst h
  go_enter Tryz.func53,Tryz.ntmps53
  go_wp2_with (go_at_call 49;refine(rregister_any _ _ _).mono ?_;rintro e w' ⟨rfl,rfl⟩)
  go_returns
  exact⟨rfl,by repeat(first|exact Below.refl _ _|(with_reducible refine below_last ?_ _))⟩
 ·have hV:=Lib.hid (show smallO size r=regO 1 r by unfold smallO;rw[if_neg h])
  have e1:(size==1)=false:=by simpa using h
  clear h
  go_enter Tryz.func53,Tryz.ntmps53
  go_wp2_with (go_at_call 49;refine(rregister_any _ _ _).mono ?_;rintro e w' ⟨rfl,rfl⟩)
  go_returns
  exact⟨by rw[hV.out];rfl,by repeat(first|exact Below.refl _ _|(with_reducible refine below_last ?_ _))⟩
theorem rturned_any(o:Opd)(k:Int)(w:World):Calls Tryz.prog 52 #[opV o,.int .i64 k] w fun e w'=>e=.returned (opV (turnO o k))∧Below w.heap.size w w':=by
 obtain⟨kind,rg,base,index,scale,disp⟩:=o
 by_cases h:kind=1
 ·subst h
  unfold opV
  go_enter Tryz.func52,Tryz.ntmps52
  go_wp2_with (go_at_call 49;refine(rregister_any _ _ _).mono ?_;rintro e w' ⟨rfl,rfl⟩)
  go_returns
  exact⟨rfl,by repeat(first|exact Below.refl _ _|(with_reducible refine below_last ?_ _))⟩
 ·have hV:=Lib.hid (show turnO ⟨kind,rg,base,index,scale,disp⟩ k=⟨kind,rg,base,index,scale,disp⟩by unfold turnO;rw[if_neg h])
  have e1:(kind==1)=false:=by simpa using h
  clear h
  rw[hV.out]
  unfold opV
  go_enter Tryz.func52,Tryz.ntmps52
  go_wp2
  go_returns
  exact⟨rfl,by repeat(first|exact Below.refl _ _|(with_reducible refine below_last ?_ _))⟩
def behF(L:Nat)(bs:Nat→Int)(k:Nat):Int:=if k<L then bs k/8%8 else -1
def behM(L:Nat)(bs:Nat→Int)(k:Nat):Bool:=decide (k<L)&&(bs k/64==3)
theorem rbehind_any(v:Value)(L:Nat)(bs:Nat→Int)(hb:∀i,0≤bs i∧bs i<256)(k:Nat)(w:World)(hs:Slc .u8 w v L bs):
  Calls Tryz.prog 22 #[v,.int .i64 (k:Int)] w fun e w'=>e=.returned (.tuple #[.int .i64 (behF L bs k),.bool (behM L bs k)])∧∃nq,w'=w.drewN nq:=by
 by_cases h:k<L
 ·rcases hs with⟨_,h0⟩|⟨ad,cap,rfl,hl,hc⟩
  ·omega
  have hV:=Lib.hid (show behF L bs k=bs k/8%8 by unfold behF;rw[if_pos h])
  have hM:=Lib.hid (show behM L bs k=(bs k/64==3)by unfold behM;rw[decide_eq_true h];rfl)
  have hck:=hc k h
  have hbk:=hb k
  have a1:=and7 (bs k/8) (by omega) (by omega)
  have hd:decide ((L:Int)≤(k:Int))=false:=decide_eq_false (by omega)
  have hd':decide (L≤k)=false:=decide_eq_false (by omega)
  have hi:(k:Int)<(L:Int):=by omega
  clear hc hb
  generalize bs k=x at *
  go_enter Tryz.func22,Tryz.ntmps22
  go_wp2_with fail
  go_quiet (fail)
  go_wp2_with fail
  go_ret2
  exact⟨by rw[hV.out,hM.out];rfl,_,rfl⟩
 ·obtain⟨a,cap,rfl⟩:=hs.len
  have hV:=Lib.hid (show behF L bs k=-1 by unfold behF;rw[if_neg h])
  have hM:=Lib.hid (show behM L bs k=false by unfold behM;rw[decide_eq_false h];rfl)
  have hd:decide ((L:Int)≤(k:Int))=true:=decide_eq_true (by omega)
  have hd':decide (L≤k)=true:=decide_eq_true (by omega)
  clear hs h hb
  go_enter Tryz.func22,Tryz.ntmps22
  go_wp2
  go_ret2
  exact⟨by rw[hV.out,hM.out];rfl,0,rfl⟩
theorem u8_of_toNat{c:UInt8}{n:Nat}(hn:n<256)(h:(c.toNat:Int)=n):c=UInt8.ofNat n:=by
 apply UInt8.toNat_inj.1
 rw[UInt8.toNat_ofNat']
 omega
theorem isRM_int(c:UInt8):isRM c=((c.toNat:Int)==69 || (c.toNat:Int)==71 || (c.toNat:Int)==103 || (c.toNat:Int)==101 || (c.toNat:Int)==88 || (c.toNat:Int)==89):=by
 have h:∀n:Nat,n<256→(c==UInt8.ofNat n)=((c.toNat:Int)==(n:Int)):=fun n hn=>by
  rw[Bool.eq_iff_iff,beq_iff_eq,beq_iff_eq]
  constructor
  ·rintro rfl
   rw[UInt8.toNat_ofNat']
   omega
  ·exact u8_of_toNat hn
 unfold isRM
 rw[show(69:UInt8)=UInt8.ofNat 69 from rfl,show(71:UInt8)=UInt8.ofNat 71 from rfl,show(103:UInt8)=UInt8.ofNat 103 from rfl,show(101:UInt8)=UInt8.ofNat 101 from rfl,show(88:UInt8)=UInt8.ofNat 88 from rfl,show(89:UInt8)=UInt8.ofNat 89 from rfl]
 rw[h 69 (by decide),h 71 (by decide),h 103 (by decide),h 101 (by decide),h 88 (by decide),h 89 (by decide)]
 rfl
theorem hasF_snoc(l:List UInt8)(k:Nat)(h:k<l.length):hasF (l.take (k+1))=(hasF (l.take k) || isRM l[k]):=by
 unfold hasF
 rw[List.take_succ_eq_append_getElem h,List.any_append]
 simp
theorem hasF_at(l:List UInt8)(k:Nat)(h:k<l.length)(hr:isRM l[k]=true):hasF l=true:=by
 unfold hasF
 rw[List.any_eq_true]
 exact⟨l[k],List.getElem_mem h,hr⟩
set_option maxHeartbeats 1000000
theorem rhasrm_any(s:ByteArray)(hl:s.size≤100)(w:World):
  Calls Tryz.prog 24 #[.string s] w fun e w'=>e=.returned (.bool (hasF s.data.toList))∧w'=w:=by
 go_enter Tryz.func24,Tryz.ntmps24
 go_wp2
 go_loop [3] (fun i=>∃k:Nat,k≤s.size∧i=.int .i64 k∧hasF (s.data.toList.take k)=false) (fun i=>s.size-(intOf i).toNat)
 case atStart=>exact⟨0,Nat.zero_le _,rfl,rfl⟩
 case round=>
  obtain⟨k,hk,rfl,hno⟩:=hrel
  by_cases hlt:k<s.size
  ·have hkl:k<s.data.toList.length:=by simpa using hlt
   have hget:s.data.toList[k]=s[k]:=rfl
   have hrm:=isRM_int s[k]
   have HY:=Lib.hid (fun hr:isRM s[k]=true=>hasF_at s.data.toList k hkl (by rw[hget];exact hr))
   have HN:=Lib.hid (fun hr:isRM s[k]=false=>(show hasF (s.data.toList.take (k+1))=false by rw[hasF_snoc _ k hkl,hno,hget,hr];rfl))
   have HR:=Lib.hid hrm
   clear hrm hget hno
   by_cases c69:((s[k].toNat:Int)==69)=true
   ·have HF:=Lib.hid (HY.out (by rw[HR.out,c69];rfl))
    clear HY HN HR
    go_wp2
    go_ret
    exact⟨by rw[HF.out];rfl,rfl⟩
   replace c69:((s[k].toNat:Int)==69)=false:=Bool.eq_false_iff.2 c69
   by_cases c71:((s[k].toNat:Int)==71)=true
   ·have HF:=Lib.hid (HY.out (by rw[HR.out,c69,c71];rfl))
    clear HY HN HR
    go_wp2
    go_ret
    exact⟨by rw[HF.out];rfl,rfl⟩
   replace c71:((s[k].toNat:Int)==71)=false:=Bool.eq_false_iff.2 c71
   by_cases c103:((s[k].toNat:Int)==103)=true
   ·have HF:=Lib.hid (HY.out (by rw[HR.out,c69,c71,c103];rfl))
    clear HY HN HR
    go_wp2
    go_ret
    exact⟨by rw[HF.out];rfl,rfl⟩
   replace c103:((s[k].toNat:Int)==103)=false:=Bool.eq_false_iff.2 c103
   by_cases c101:((s[k].toNat:Int)==101)=true
   ·have HF:=Lib.hid (HY.out (by rw[HR.out,c69,c71,c103,c101];rfl))
    clear HY HN HR
    go_wp2
    go_ret
    exact⟨by rw[HF.out];rfl,rfl⟩
   replace c101:((s[k].toNat:Int)==101)=false:=Bool.eq_false_iff.2 c101
   by_cases c88:((s[k].toNat:Int)==88)=true
   ·have HF:=Lib.hid (HY.out (by rw[HR.out,c69,c71,c103,c101,c88];rfl))
    clear HY HN HR
    go_wp2
    go_ret
    exact⟨by rw[HF.out];rfl,rfl⟩
   replace c88:((s[k].toNat:Int)==88)=false:=Bool.eq_false_iff.2 c88
   by_cases c89:((s[k].toNat:Int)==89)=true
   ·have HF:=Lib.hid (HY.out (by rw[HR.out,c69,c71,c103,c101,c88,c89];rfl))
    clear HY HN HR
    go_wp2
    go_ret
    exact⟨by rw[HF.out];rfl,rfl⟩
   replace c89:((s[k].toNat:Int)==89)=false:=Bool.eq_false_iff.2 c89
   have HF:=Lib.hid (HN.out (by rw[HR.out,c69,c71,c103,c101,c88,c89];rfl))
   clear HY HN HR
   go_wp2
   go_round
   case rel=>exact⟨k+1,by omega,by go_num,HF.out⟩
   case measure=>simp[intOf];omega
  ·have hke:k=s.size:=by omega
   have HF:=Lib.hid (show hasF s.data.toList=false by rw[←hno,hke,List.take_of_length_le (by simp)])
   clear hno hke
   go_wp2
   go_ret
   exact⟨by rw[HF.out];rfl,rfl⟩
structure Sta where
 r:Nat→Int
 ip:Int
 c:Bool
 p:Bool
 z:Bool
 s:Bool
 o:Bool
 d:Bool
 x:Nat→Int
def staL(s:Sta):List Value:=[.int .u32 (s.r 0),.int .u32 (s.r 1),.int .u32 (s.r 2),.int .u32 (s.r 3),.int .u32 (s.r 4),.int .u32 (s.r 5),.int .u32 (s.r 6),.int .u32 (s.r 7),.int .u32 s.ip,.bool s.c,.bool s.p,.bool s.z,.bool s.s,.bool s.o,.bool s.d,.int .u64 (s.x 0),.int .u64 (s.x 1),.int .u64 (s.x 2),.int .u64 (s.x 3),.int .u64 (s.x 4),.int .u64 (s.x 5),.int .u64 (s.x 6),.int .u64 (s.x 7)]
def staV(s:Sta):Value:=.agg (staL s).toArray
structure StaOk (s:Sta):Prop where
 r:∀i,i<8→0≤s.r i∧s.r i<4294967296
 x:∀i,i<8→0≤s.x i∧s.x i<18446744073709551616
 ip:0≤s.ip∧s.ip<4294967296
theorem info_sta:(Tryz.prog.info? 29).map (·.size)=some 23:=by kernel_rfl
theorem sta_r(s:Sta)(i:Nat)(h:i<8):(staL s)[i]?=some (.int .u32 (s.r i)):=by
 rcases(show i=0∨i=1∨i=2∨i=3∨i=4∨i=5∨i=6∨i=7 by omega)with rfl|rfl|rfl|rfl|rfl|rfl|rfl|rfl<;>rfl
theorem sta_x(s:Sta)(i:Nat)(h:i<8):(staL s)[15+i]?=some (.int .u64 (s.x i)):=by
 rcases(show i=0∨i=1∨i=2∨i=3∨i=4∨i=5∨i=6∨i=7 by omega)with rfl|rfl|rfl|rfl|rfl|rfl|rfl|rfl<;>rfl
def getF(s:Sta)(o:Opd):Int:=
 if o.kind=4 then o.disp
 else if 0≤o.reg∧o.reg≤7 then(if o.kind=1 then s.r o.reg.toNat else if o.kind=2 then s.r (o.reg%4).toNat/(if o.reg<4 then 1 else 256)%256 else if o.kind=5 then s.x o.reg.toNat else 0)
 else 0
def putN(g:Nat→Int)(k:Nat)(v:Int):Nat→Int:=fun i=>if i=k then v else g i
def byteF(r v:Int)(hi:Bool):Int:=if hi then r/65536*65536+v%256*256+r%256 else r/256*256+v%256
def setF(s:Sta)(o:Opd)(v:Int):Sta:=
 if 0≤o.reg∧o.reg≤7 then
  (if o.kind=1 then{ s with r:=putN s.r o.reg.toNat (v%4294967296) }
  else if o.kind=2 then{ s with r:=putN s.r (o.reg%4).toNat (byteF (s.r (o.reg%4).toNat) v (decide (4≤o.reg))) }
  else if o.kind=5 then{ s with x:=putN s.x o.reg.toNat v }else s)
 else s
theorem in13_any(v a b:Int)(w:World):Calls Tryz.prog 28 #[.int .i64 v,.int .i64 a,.int .i64 b] w fun e w'=>e=.returned (.bool (decide (a≤v∧v≤b)))∧w=w':=by
 by_cases h0:a≤v
 ·by_cases h7:v≤b
  ·rw[show decide (a≤v∧v≤b)=true by simp[h0,h7]]
   have e0:decide (v≥a)=true:=by simpa using h0
   have e0':decide (a≤v)=true:=by simpa using h0
   have e7:decide (v≤b)=true:=by simpa using h7
   clear h0 h7
   go_enter Tryz.func28,Tryz.ntmps28
   go_wp2
   go_ret
   exact⟨rfl,rfl⟩
  ·rw[show decide (a≤v∧v≤b)=false by simp[h7]]
   have e0:decide (v≥a)=true:=by simpa using h0
   have e0':decide (a≤v)=true:=by simpa using h0
   have e7:decide (v≤b)=false:=by simpa using h7
   clear h0 h7
   go_enter Tryz.func28,Tryz.ntmps28
   go_wp2
   go_ret
   exact⟨rfl,rfl⟩
 ·rw[show decide (a≤v∧v≤b)=false by simp[h0]]
  have e0:decide (v≥a)=false:=by simpa using h0
  have e0':decide (a≤v)=false:=by simpa using h0
  clear h0
  go_enter Tryz.func28,Tryz.ntmps28
  go_wp2
  go_ret
  exact⟨rfl,rfl⟩
theorem in13_is{v a b:Int}{B:Bool}(h:decide (a≤v∧v≤b)=B)(w:World):Calls Tryz.prog 28 #[.int .i64 v,.int .i64 a,.int .i64 b] w fun e w'=>e=.returned (.bool B)∧w=w':=by
 subst h
 exact in13_any v a b w
theorem heap_two{w W:World}{o p:Obj}(h:W=(w.alloc o).alloc p):W.heap[w.heap.size]?=some o∧W.heap[w.heap.size+1]?=some p∧Below w.heap.size w W:=by
 subst h
 refine⟨?_,?_,below_last (below_last (Below.refl _ _) _) _⟩
 ·show((w.heap.push _).push _)[w.heap.size]?=_
  simp[Array.getElem?_push]
 ·show((w.heap.push o).push p)[w.heap.size+1]?=_
  rw[show w.heap.size+1=(w.heap.push o).size by simp]
  exact Array.getElem?_push_size
theorem below_dr{B:Nat}{w W:World}(h:Below B w W):∀n,Below B w (W.drewN n):=fun _=>⟨h.os,h.tape,h.output,h.size,h.block⟩
theorem and255(a:Int)(h0:0≤a)(h1:a<4294967296):bits .and .u32 a 255=a%256:=by
 rw[u32_and a 255 h0 h1 (by decide) (by decide)]
 have h:a.toNat &&& (255:Int).toNat=a.toNat%256:=Nat.and_two_pow_sub_one_eq_mod a.toNat 8
 rw[h]
 omega
set_option maxHeartbeats 8000000
theorem rget_any(s:Sta)(o:Opd)(hs:StaOk s)(d0:0≤o.disp)(d1:o.disp<4294967296)(w:World):Calls Tryz.prog 105 #[staV s,opV o] w fun e w'=>e=.returned (.int .u64 (getF s o))∧Below w.heap.size w w':=by
 obtain⟨k,r,b,i,c,d⟩:=o
 dsimp only at d0 d1
 have HS:=Lib.hid hs
 clear hs
 by_cases hk:k=4
 ·subst hk
  have HF:=Lib.hid (show getF s ⟨4,r,b,i,c,d⟩=d from if_pos rfl)
  rw[HF.out]
  unfold staV opV staL
  go_enter Tryz.func105,Tryz.ntmps105
  go_wp2_with fail
  go_ret
  exact⟨rfl,below_last (below_last (Below.refl _ _) _) _⟩
 have e4:(k==4)=false:=by simpa using hk
 obtain⟨B,hB⟩:∃B,decide (0≤r∧r≤7)=B:=⟨_,rfl⟩
 have HIN:=Lib.hid (in13_is hB)
 obtain⟨G,hG⟩:∃G,getF s ⟨k,r,b,i,c,d⟩=G:=⟨_,rfl⟩
 rw[hG]
 have HG:=Lib.hid (show(if 0≤r∧r≤7 then(if k=1 then s.r r.toNat else if k=2 then s.r (r%4).toNat/(if r<4 then 1 else 256)%256 else if k=5 then s.x r.toNat else 0)else 0)=G by rw[←hG];exact(if_neg hk).symm)
 have HB:=Lib.hid hB
 clear hB hG hk
 unfold staV opV
 go_enter Tryz.func105,Tryz.ntmps105
 go_wp2_with fail
 ((with_reducible refine(HIN.out _).mono ?_);rintro e w' ⟨rfl,rfl⟩)
 obtain⟨W,hW⟩:∃W,W=(w.alloc (.cells (staL s).toArray 29)).alloc (.cells #[.int .i64 k,.int .i64 r,.int .i64 b,.int .i64 i,.int .i64 c,.int .u32 d] 32):=⟨_,rfl⟩
 rw[←hW]
 obtain⟨hS,hO,hbel⟩:=heap_two hW
 have HBEL:=Lib.hid hbel
 have k0:W.cell? ⟨w.heap.size+1,0,none⟩=some (.int .i64 k):=(cell_block hO 0).1
 have k1:W.cell? ⟨w.heap.size+1,1,none⟩=some (.int .i64 r):=(cell_block hO 1).1
 have HST:=Lib.hid hS
 clear hW hS hO hbel
 cases B with
 |false=>
  have HV:=Lib.hid (show G=0 by rw[←HG.out];exact if_neg (of_decide_eq_false HB.out))
  go_wp2_with fail
  go_ret
  exact⟨by rw[HV.out];rfl,HBEL.out⟩
 |true=>
  have hr:=of_decide_eq_true HB.out
  obtain⟨j,rfl⟩:=Int.eq_ofNat_of_zero_le hr.1
  have hj:j<8:=by omega
  have HG:=Lib.hid ((if_pos hr).symm.trans HG.out)
  have hj8:(j:Int)<8:=by omega
  clear hr
  by_cases h1:k=1
  ·subst h1
   have hc:W.cell? ⟨w.heap.size,j,none⟩=some (.int .u32 (s.r j)):=(cell_block HST.out j).1.trans (by simpa using sta_r s j hj)
   have HV:=Lib.hid (show G=s.r j by rw[←HG.out,if_pos rfl];rfl)
   have hb:=HS.out.r j hj
   obtain⟨v,hv⟩:∃v,s.r j=v:=⟨_,rfl⟩
   rw[hv]at hc hb HV
   obtain⟨b0,b1⟩:=hb
   clear hv
   go_wp2_with fail
   go_ret
   exact⟨by rw[HV.out];rfl,HBEL.out⟩
  have e1:(k==1)=false:=by simpa using h1
  by_cases h2:k=2
  ·subst h2
   have hc0:W.cell? ⟨w.heap.size,0,none⟩=some (.int .u32 (s.r 0)):=(cell_block HST.out 0).1.trans rfl
   have hc1:W.cell? ⟨w.heap.size,1,none⟩=some (.int .u32 (s.r 1)):=(cell_block HST.out 1).1.trans rfl
   have hc2:W.cell? ⟨w.heap.size,2,none⟩=some (.int .u32 (s.r 2)):=(cell_block HST.out 2).1.trans rfl
   have hc3:W.cell? ⟨w.heap.size,3,none⟩=some (.int .u32 (s.r 3)):=(cell_block HST.out 3).1.trans rfl
   obtain⟨r0,r0'⟩:=HS.out.r 0 (by decide)
   obtain⟨r1,r1'⟩:=HS.out.r 1 (by decide)
   obtain⟨r2,r2'⟩:=HS.out.r 2 (by decide)
   obtain⟨r3,r3'⟩:=HS.out.r 3 (by decide)
   have HG:=Lib.hid ((if_neg h1).symm.trans HG.out)
   have HG:=Lib.hid ((if_pos rfl).symm.trans HG.out)
   rcases(show j=0∨j=1∨j=2∨j=3∨j=4∨j=5∨j=6∨j=7 by omega)with rfl|rfl|rfl|rfl|rfl|rfl|rfl|rfl
   ·have k1:W.cell? ⟨w.heap.size+1,1,none⟩=some (.int .i64 0):=k1
    have a3:bits .and .i64 0 3=0:=by decide +kernel
    have a5:=and255 (s.r 0) (by omega) (by omega)
    have HV:=Lib.hid (show G=s.r 0%256 by rw[←HG.out];simp)
    clear h1 hj hj8
    go_wp2_with fail
    go_quiet (fail)
    go_wp2_with fail
    go_ret
    exact⟨by rw[HV.out];rfl,below_dr HBEL.out _⟩
   ·have k1:W.cell? ⟨w.heap.size+1,1,none⟩=some (.int .i64 1):=k1
    have a3:bits .and .i64 1 3=1:=by decide +kernel
    have a5:=and255 (s.r 1) (by omega) (by omega)
    have HV:=Lib.hid (show G=s.r 1%256 by rw[←HG.out];simp)
    clear h1 hj hj8
    go_wp2_with fail
    go_quiet (fail)
    go_wp2_with fail
    go_ret
    exact⟨by rw[HV.out];rfl,below_dr HBEL.out _⟩
   ·have k1:W.cell? ⟨w.heap.size+1,1,none⟩=some (.int .i64 2):=k1
    have a3:bits .and .i64 2 3=2:=by decide +kernel
    have a5:=and255 (s.r 2) (by omega) (by omega)
    have HV:=Lib.hid (show G=s.r 2%256 by rw[←HG.out];simp)
    clear h1 hj hj8
    go_wp2_with fail
    go_quiet (fail)
    go_wp2_with fail
    go_ret
    exact⟨by rw[HV.out];rfl,below_dr HBEL.out _⟩
   ·have k1:W.cell? ⟨w.heap.size+1,1,none⟩=some (.int .i64 3):=k1
    have a3:bits .and .i64 3 3=3:=by decide +kernel
    have a5:=and255 (s.r 3) (by omega) (by omega)
    have HV:=Lib.hid (show G=s.r 3%256 by rw[←HG.out];simp)
    clear h1 hj hj8
    go_wp2_with fail
    go_quiet (fail)
    go_wp2_with fail
    go_ret
    exact⟨by rw[HV.out];rfl,below_dr HBEL.out _⟩
   ·have k1:W.cell? ⟨w.heap.size+1,1,none⟩=some (.int .i64 4):=k1
    have a3:bits .and .i64 4 3=0:=by decide +kernel
    have a5:=and255 (s.r 0/256) (by omega) (by omega)
    have HV:=Lib.hid (show G=s.r 0/256%256 by rw[←HG.out];rfl)
    clear h1 hj hj8
    go_wp2_with fail
    go_quiet (fail)
    go_wp2_with fail
    go_ret
    exact⟨by rw[HV.out];rfl,below_dr HBEL.out _⟩
   ·have k1:W.cell? ⟨w.heap.size+1,1,none⟩=some (.int .i64 5):=k1
    have a3:bits .and .i64 5 3=1:=by decide +kernel
    have a5:=and255 (s.r 1/256) (by omega) (by omega)
    have HV:=Lib.hid (show G=s.r 1/256%256 by rw[←HG.out];rfl)
    clear h1 hj hj8
    go_wp2_with fail
    go_quiet (fail)
    go_wp2_with fail
    go_ret
    exact⟨by rw[HV.out];rfl,below_dr HBEL.out _⟩
   ·have k1:W.cell? ⟨w.heap.size+1,1,none⟩=some (.int .i64 6):=k1
    have a3:bits .and .i64 6 3=2:=by decide +kernel
    have a5:=and255 (s.r 2/256) (by omega) (by omega)
    have HV:=Lib.hid (show G=s.r 2/256%256 by rw[←HG.out];rfl)
    clear h1 hj hj8
    go_wp2_with fail
    go_quiet (fail)
    go_wp2_with fail
    go_ret
    exact⟨by rw[HV.out];rfl,below_dr HBEL.out _⟩
   ·have k1:W.cell? ⟨w.heap.size+1,1,none⟩=some (.int .i64 7):=k1
    have a3:bits .and .i64 7 3=3:=by decide +kernel
    have a5:=and255 (s.r 3/256) (by omega) (by omega)
    have HV:=Lib.hid (show G=s.r 3/256%256 by rw[←HG.out];rfl)
    clear h1 hj hj8
    go_wp2_with fail
    go_quiet (fail)
    go_wp2_with fail
    go_ret
    exact⟨by rw[HV.out];rfl,below_dr HBEL.out _⟩
  have e2:(k==2)=false:=by simpa using h2
  by_cases h5:k=5
  ·subst h5
   have hc:W.cell? ⟨w.heap.size,15+j,none⟩=some (.int .u64 (s.x j)):=(cell_block HST.out (15+j)).1.trans (by simpa using sta_x s j hj)
   have HV:=Lib.hid (show G=s.x j by rw[←HG.out,if_neg h1,if_neg h2,if_pos rfl];rfl)
   clear h1 h2
   go_wp2_with fail
   go_ret
   exact⟨by rw[HV.out];rfl,HBEL.out⟩
  have e5:(k==5)=false:=by simpa using h5
  have HV:=Lib.hid (show G=0 by rw[←HG.out,if_neg h1,if_neg h2,if_neg h5])
  clear h1 h2 h5
  go_wp2_with fail
  go_ret
  exact⟨by rw[HV.out];rfl,HBEL.out⟩
theorem store_row{P:Program}{ops:Array Oper}{rest:List Oper}{op:Oper}{a:Act}{w:World}{Q:Exit→Act→World→Prop}(hgd:op.guard=none)(T:TypeId)(x y:Operand)(ho:op.op=.store T x y)
  (R:Nat) (hx:a.eval x=.pointer (some ⟨R,0,none⟩)) (C:List Value) (hy:a.eval y=.agg C.toArray) (d:TypeDesc) (hu:P.underlying T=some d) (hd:d.isRow=true) (hi:(P.info? T).map (·.size)=some C.length) (h1:C.toArray.all (·.oneCell')=true) (ht:w.there R 0 C.length)
  (hK:∀Y,Y=w.setCells R 0 C→(loadVar T ⟨R,0,none⟩).run P Y=.ok (.agg C.toArray) Y→wpList P ops Q rest (a.put op.dst undef) Y):wpList P ops Q (op :: rest) a w:=by
 refine wpList_store_mid hgd T x y ho R 0 C.toArray hx hy (by simpa using ht) (by simpa using hi) h1 ?_
 have hr:=World.rangeAt_setCells_same w R 0 C ht
 have hl:=load_range (P:=P) T d hu hd hi hr
 exact hK _ rfl hl
theorem results_cell{P:Program}{fn:Func}{a:Nat}{T:TypeId}{tmps:Array Value}{p:Addr}{c:Value}{u:World}(hr:fn.results=#[.cell a T])(ha:tmps.getD a undef=.pointer (some p))(hl:(loadVar T p).run P u=.ok c u):(results fn tmps).run P u=.ok c u:=by
 have h:results fn tmps=(do loadVar T (←asAddr (tmps.getD a undef))):=by
  unfold results
  rw[hr]
  simp
 rw[h,ha]
 simp only[asAddr,Sem.run_bind,Sem.run_pure,Result.andThen,hl]
theorem info_opd1:(Tryz.prog.info? 32).map (·.size)=some 6:=by kernel_rfl
def opL'(o:Opd):List Value:=[.int .i64 o.kind,.int .i64 o.reg,.int .i64 o.base,.int .i64 o.index,.int .i64 o.scale,.int .u32 o.disp]
theorem store_opd{ops:Array Oper}{rest:List Oper}{op:Oper}{a:Act}{w:World}{Q:Exit→Act→World→Prop}(hgd:op.guard=none)(x y:Operand)(ho:op.op=.store 32 x y)
  (R:Nat) (hx:a.eval x=.pointer (some ⟨R,0,none⟩)) (q:Opd) (hy:a.eval y=opV q) (ht:w.there R 0 6)
  (hK:∀Y,Y=w.setCells R 0 (opL' q)→(loadVar 32 ⟨R,0,none⟩).run Tryz.prog Y=.ok (opV q) Y→wpList Tryz.prog ops Q rest (a.put op.dst undef) Y):wpList Tryz.prog ops Q (op :: rest) a w:=
 store_row hgd _ x y ho R hx (opL' q) hy _ Tryz.underlying32 rfl info_opd1 (by simp[opL',Value.oneCell']) ht hK
theorem there_alloc_new(w:World)(C:Array Value)(T:TypeId)(n:Nat)(hn:n≤C.size):(w.alloc (.cells C T)).there w.heap.size 0 n:=by
 have h:(w.alloc (.cells C T)).heap[w.heap.size]?=some (.cells C T (0,0)):=by
  show(w.heap.push _)[w.heap.size]?=_
  simp
 exact there_block h 0 n (by omega)
theorem there_but{F:Nat→Prop}{w w':World}{R o n:Nat}(h:But F w w')(hn:¬F R)(hR:R<w.heap.size)(ht:w.there R o n):w'.there R o n:=fun j hj=>by
 have hb:=h.block R hR hn
 rw[World.cell?_of_block (a:=⟨R,o+j,none⟩) hb,World.frozen?_of_block (a:=⟨R,o+j,none⟩) hb]
 exact ht j hj
theorem there_alloc{w:World}{R n:Nat}(o:Obj)(hR:R<w.heap.size)(ht:w.there R 0 n):(w.alloc o).there R 0 n:=
 there_but (F:=fun _=>False) ((But.refl _ w).alloc o) (fun h=>h) hR ht
theorem But.cells{F:Nat→Prop}{w w':World}(h:But F w w'){R:Nat}(hR:R<w.heap.size→F R):∀(vs:List Value) (o:Nat),But F w (w'.setCells R o vs):=by
 intro vs
 induction vs generalizing w' with
 |nil=>intro o;exact h
 |cons v vs ih=>intro o;exact ih (h.setCell (a:=⟨R,o,none⟩) hR v) (o+1)
theorem setCells_size(R:Nat):∀(vs:List Value) (o:Nat) (w:World),(w.setCells R o vs).heap.size=w.heap.size
 |[],_,_=>rfl
 |v :: vs,o,w=>(setCells_size R vs (o+1) _).trans (by simp[World.setCell])
end Go.Proofs.YtmdncgfheeijaaaGreat
