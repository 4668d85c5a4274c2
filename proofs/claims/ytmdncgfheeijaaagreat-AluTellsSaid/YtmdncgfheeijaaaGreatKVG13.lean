import Derived.Laws.MathBits
import Derived.Handy
import Derived.BigQuiet
import Derived.Deep.QuietTactic
import Derived.Deep.DeepCutAuto
import Derived.Deep.CutBlock
import Derived.Lib.Hide
import Derived.Deep.MidRow
import Derived.Test.YtmdncgfheeijaaaGreatKVG1
namespace Go.Proofs.YtmdncgfheeijaaaGreat
open Go.ChangeShapes Go.WideShapes Go.ChangeAt Go.RowKit
set_option maxRecDepth 100000
def opV(o:Opd):Value:=.agg #[.int .i64 o.kind,.int .i64 o.reg,.int .i64 o.base,.int .i64 o.index,.int .i64 o.scale,.int .u32 o.disp]
theorem and7(z:Int)(h0:0≤z)(h1:z<256):bits .and .u8 z 7=z%8:=by
 obtain⟨k,rfl⟩:∃k:Nat,z=(k:Int):=⟨z.toNat,by omega⟩
 have:=u8_and_nat k 7 (by omega) (by omega)
 rw[show((7:Nat):Int)=7 from rfl]at this
 rw[this,show k &&& 7=k%8 from Nat.and_two_pow_sub_one_eq_mod k 3]
 rfl
theorem rnone_any(w:World):Calls Tryz.prog 23 #[] w fun e w'=>e=.returned (.agg #[.int .i64 0,.int .i64 0,.int .i64 (-1),.int .i64 (-1),.int .i64 1,.int .u32 0])∧w'=w.alloc (.cells #[.int .i64 0,.int .i64 0,.int .i64 (-1),.int .i64 (-1),.int .i64 1,.int .u32 0] 32):=by
 go_enter Tryz.func23,Tryz.ntmps23
 go_wp2
 go_returns
 exact⟨rfl,rfl⟩
theorem rregister_any(k r:Int)(w:World):Calls Tryz.prog 49 #[.int .i64 k,.int .i64 r] w fun e w'=>e=.returned (.agg #[.int .i64 k,.int .i64 r,.int .i64 (-1),.int .i64 (-1),.int .i64 1,.int .u32 0]) ∧
  w'=((w.alloc (.cells #[.int .i64 k,.int .i64 r,.int .i64 (-1),.int .i64 (-1),.int .i64 1,.int .u32 0] 32)).alloc (.cells #[.int .i64 0,.int .i64 0,.int .i64 (-1),.int .i64 (-1),.int .i64 1,.int .u32 0] 32)).alloc (.cells #[.int .i64 k,.int .i64 r,.int .i64 (-1),.int .i64 (-1),.int .i64 1,.int .u32 0] 32):=by
 go_enter Tryz.func49,Tryz.ntmps49
 go_wp2_with (go_at_call 23;refine(rnone_any _).mono ?_;rintro e w' ⟨rfl,rfl⟩)
 go_returns
 exact⟨rfl,rfl⟩
theorem rsx_any(c:Int)(c0:0≤c)(c1:c<256)(w:World):Calls Tryz.prog 50 #[.int .u8 c] w fun e w'=>e=.returned (.int .u32 (sx9 c))∧w'=w:=by
 have h:wrap32 (IntKind.i8.wrap c)%4294967296=sx9 c:=by
  simp only[wrap32,IntKind.wrap,IntKind.bits,IntKind.signed]
  simp
  unfold sx9
  split<;>omega
 go_enter Tryz.func50,Tryz.ntmps50
 go_wp2
 go_ret
 simp[h]
theorem or_add(k:Nat)(a b:Int)(a0:0≤a)(a1:a<((2^k:Nat):Int))(b0:0≤b)(h:a+b*((2^k:Nat):Int)<4294967296):bits .or .u32 a (b*((2^k:Nat):Int))=a+b*((2^k:Nat):Int):=by
 obtain⟨x,rfl⟩:∃x:Nat,a=(x:Int):=⟨a.toNat,by omega⟩
 obtain⟨y,rfl⟩:∃y:Nat,b=(y:Int):=⟨b.toNat,by omega⟩
 have e:(y:Int)*((2^k:Nat):Int)=((y*2^k:Nat):Int):=by push_cast;rfl
 rw[e]at h ⊢
 have hx:x<2^k:=by omega
 rw[u32_or_nat x (y*2^k) (by omega) (by omega)]
 have:=Nat.shiftLeft_add_eq_or_of_lt hx y
 rw[Nat.shiftLeft_eq]at this
 rw[Nat.or_comm,←this]
 omega
theorem rfour_any(x0 x1 x2 x3:Int)(L cap:Nat)(ad:Addr)(b0:0≤x0∧x0<256)(b1:0≤x1∧x1<256)(b2:0≤x2∧x2<256)(b3:0≤x3∧x3<256)(h4:4≤L)(w:World)
  (k0:w.cell? (ad.add 0)=some (.int .u8 x0)) (k1:w.cell? (ad.add 1)=some (.int .u8 x1)) (k2:w.cell? (ad.add 2)=some (.int .u8 x2)) (k3:w.cell? (ad.add 3)=some (.int .u8 x3)):
  Calls Tryz.prog 51 #[.slice (some ad) L cap] w fun e w'=>e=.returned (.int .u32 (four9 x0 x1 x2 x3))∧∃nq,w'=w.drewN nq:=by
 have c0:w.cell? ad=some (.int .u8 x0):=by simpa[Addr.add]using k0
 have c1:w.cell? ⟨ad.block,ad.off+1,none⟩=some (.int .u8 x1):=by simpa[Addr.add]using k1
 have c2:w.cell? ⟨ad.block,ad.off+2,none⟩=some (.int .u8 x2):=by simpa[Addr.add]using k2
 have c3:w.cell? ⟨ad.block,ad.off+3,none⟩=some (.int .u8 x3):=by simpa[Addr.add]using k3
 have i0':0<L:=by omega
 have i1':1<L:=by omega
 have i2':2<L:=by omega
 have i3':3<L:=by omega
 have i1:(1:Int)<(L:Int):=by omega
 have i2:(2:Int)<(L:Int):=by omega
 have i3:(3:Int)<(L:Int):=by omega
 have w0:IntKind.u32.wrap x0=x0:=by rw[IntKind.wrap_u32];omega
 have w1:IntKind.u32.wrap x1=x1:=by rw[IntKind.wrap_u32];omega
 have w2:IntKind.u32.wrap x2=x2:=by rw[IntKind.wrap_u32];omega
 have w3:IntKind.u32.wrap x3=x3:=by rw[IntKind.wrap_u32];omega
 have s1:IntKind.u32.wrap (x1*256)=x1*256:=by rw[IntKind.wrap_u32];omega
 have s2:IntKind.u32.wrap (x2*65536)=x2*65536:=by rw[IntKind.wrap_u32];omega
 have s3:IntKind.u32.wrap (x3*16777216)=x3*16777216:=by rw[IntKind.wrap_u32];omega
 have o1:bits .or .u32 x0 (x1*256)=x0+x1*256:=or_add 8 x0 x1 b0.1 b0.2 b1.1 (by show x0+x1*256<_;omega)
 have o2:bits .or .u32 (x0+x1*256) (x2*65536)=x0+x1*256+x2*65536:=or_add 16 _ x2 (by omega) (by show _<(65536:Int);omega) b2.1 (by show _+x2*65536<_;omega)
 have o3:bits .or .u32 (x0+x1*256+x2*65536) (x3*16777216)=x0+x1*256+x2*65536+x3*16777216:=or_add 24 _ x3 (by omega) (by show _<(16777216:Int);omega) b3.1 (by show _+x3*16777216<_;omega)
 clear k0 k1 k2 k3 b0 b1 b2 b3
 go_enter Tryz.func51,Tryz.ntmps51
 go_wp2_with fail
 go_quiet (fail)
 go_wp2_with fail
 go_ret
 exact⟨by simp[four9],_,rfl⟩
theorem drewN_alloc(w:World)(o:Obj):∀n,(w.alloc o).drewN n=(w.drewN n).alloc o
 |0=>rfl
 |n+1=>by
  show((w.alloc o).drewN n).drew=((w.drewN n).drew).alloc o
  rw[drewN_alloc w o n]
  rfl
theorem drewN_size(w:World):∀n,(w.drewN n).heap.size=w.heap.size
 |0=>rfl
 |n+1=>drewN_size w n
theorem cell_alloc{w:World}{o:Obj}{p:Addr}{x:Value}(h:w.cell? p=some x):(w.alloc o).cell? p=some x:=(World.cell?_alloc_lt w o p (cell_lt h)).trans h
def rmV(L:Nat)(bs:Nat→Int):Value:=
 match rmF L bs with
 |none=>.tuple #[.agg #[.int .i64 0,.int .i64 0,.int .i64 0,.int .i64 0,.int .i64 0,.int .u32 0],.int .i64 0,.int .i64 0,.int .i64 21]
 |some (o,r,n)=>.tuple #[.agg #[.int .i64 o.kind,.int .i64 o.reg,.int .i64 o.base,.int .i64 o.index,.int .i64 o.scale,.int .u32 o.disp],.int .i64 r,.int .i64 n,.int .i64 0]
def Sib(L:Nat)(bs:Nat→Int)(N:Nat)(B I S:Int):Prop:=(bs 0%8≠4∧N=1∧B=bs 0%8∧I=-1∧S=1)∨(bs 0%8=4∧2≤L∧N=2∧B=bs 1%8∧I=sibI (bs 1)∧S=sibS (bs 1))
theorem Sib.rm{L:Nat}{bs:Nat→Int}{N:Nat}{B I S:Int}(h:Sib L bs N B I S)(h0:L≠0)(h3:bs 0/64≠3):rmF L bs=if L<N+more9 (bs 0/64) B then none else some (⟨3,0,base9 (bs 0/64) B,I,S,disp9 (more9 (bs 0/64) B) bs N⟩,bs 0/8%8,N+more9 (bs 0/64) B):=by
 unfold rmF
 rw[if_neg h0,if_neg h3]
 rcases h with⟨h4,rfl,rfl,rfl,rfl⟩|⟨h4,hL,rfl,rfl,rfl,rfl⟩
 ·rw[if_neg h4]
 ·rw[if_pos h4,if_neg (by omega)]
theorem Sib.none{L:Nat}{bs:Nat→Int}(h0:L≠0)(h3:bs 0/64≠3)(h4:bs 0%8=4)(hL:L<2):rmF L bs=.none:=by
 unfold rmF
 rw[if_neg h0,if_neg h3,if_pos h4,if_pos hL]
set_option maxHeartbeats 8000000
theorem rm_any(v:Value)(L:Nat)(bs:Nat→Int)(hb:∀i,0≤bs i∧bs i<256)(w:World)(hs:Slc .u8 w v L bs)(hL:L≤maxLen):
  Calls Tryz.prog 25 #[v] w fun e w'=>e=.returned (rmV L bs)∧Below w.heap.size w w':=by
 by_cases hL0:L=0
 ·obtain⟨ad,cap,rfl⟩:=hs.len
  subst hL0
  go_enter Tryz.func25,Tryz.ntmps25
  go_wp2
  go_returns
  exact⟨rfl,below_last (Below.refl _ _) _⟩
 ·rcases hs with⟨_,h⟩|⟨ad,cap,rfl,hcap,hc⟩
  ·exact absurd h hL0
  ·obtain⟨m,hm⟩:∃m,bs 0=m:=⟨_,rfl⟩
   have hm0:0≤m:=by rw[←hm];exact(hb 0).1
   have hm1:m<256:=by rw[←hm];exact(hb 0).2
   have c0:w.cell? ad=some (.int .u8 m):=by have:=hc 0 (by omega);rw[hm]at this;simpa[Addr.add]using this
   have i0':0<L:=by omega
   have hadl:ad.block<w.heap.size:=cell_lt c0
   have c0':=(World.cell?_alloc_lt w (.cells #[.int .i64 0,.int .i64 0,.int .i64 0,.int .i64 0,.int .i64 0,.int .u32 0] 32) ad hadl).trans c0
   have a1:bits .and .u8 (m/8) 7=m/8%8:=and7 _ (by omega) (by omega)
   have a2:bits .and .u8 m 7=m%8:=and7 _ hm0 hm1
   have w1:IntKind.i64.wrap (m/8%8)=m/8%8:=by rw[IntKind.wrap_i64];omega
   have w2:IntKind.i64.wrap (m%8)=m%8:=by rw[IntKind.wrap_i64];omega
   have d0:((L:Int)==0)=false:=by rw[beq_eq_false_iff_ne];omega
   have HC:=Lib.hid hc
   have HM:=Lib.hid hm
   clear hc hm
   go_enter Tryz.func25,Tryz.ntmps25
   go_wp2_with fail
   go_quiet (fail)
   rw[drewN_alloc]
   have hu:=drewN_size w nq
   have hub:Below w.heap.size w (w.drewN nq):=below_drewN (Below.refl _ _) _
   have hcu:∀(p:Addr) (x:Value),w.cell? p=some x→(w.drewN nq).cell? p=some x:=fun p x h=>cell_call hub h
   have HUW:=Lib.hid hub
   rw[←hu]
   rw[←hu]at hadl
   have HCU:=Lib.hid hcu
   clear hu hub hcu c0 c0'
   generalize w.drewN nq=u at *
   have l1:ad.block<u.heap.size+1:=by omega
   have l2:ad.block<u.heap.size+1+1:=by omega
   have l3:ad.block<u.heap.size+1+1+1:=by omega
   have l4:ad.block<u.heap.size+1+1+1+1:=by omega
   by_cases h3:m/64=3
   ·have d3:(m/64==3)=true:=by rw[beq_iff_eq];exact h3
    have HV:=Lib.hid (show rmV L bs=.tuple #[.agg #[.int .i64 1,.int .i64 (m%8),.int .i64 (-1),.int .i64 (-1),.int .i64 1,.int .u32 0],.int .i64 (m/8%8),.int .i64 1,.int .i64 0]by
     have hm:=HM.out
     unfold rmV rmF;simp[hm,hL0,h3])
    go_wp2_with (go_at_call 49;refine(rregister_any _ _ _).mono ?_;rintro e w' ⟨rfl,rfl⟩)
    go_returns
    exact⟨by rw[HV.out],by repeat(first|exact HUW.out|refine below_last ?_ _)⟩
   ·have d3:(m/64==3)=false:=by rw[beq_eq_false_iff_ne];exact h3
    have H3:=Lib.hid h3
    clear h3
    go_upto_if 43 with(go_at_call 23;refine(rnone_any _).mono ?_;rintro e w' ⟨rfl,rfl⟩)
    go_cut [10] (fun s10 wy=>∃(N:Nat) (B I S:Int),Sib L bs N B I S∧s10=.int .i64 N∧wy=((u.alloc (.cells #[.int .i64 0,.int .i64 0,.int .i64 0,.int .i64 0,.int .i64 0,.int .u32 0] 32)).alloc (.cells #[.int .i64 0,.int .i64 0,.int .i64 (-1),.int .i64 (-1),.int .i64 1,.int .u32 0] 32)).alloc (.cells #[.int .i64 3,.int .i64 0,.int .i64 B,.int .i64 I,.int .i64 S,.int .u32 0] 32))
    case first=>
     have HM3:Hid (bs 0/64≠3):=Lib.hid (by rw[HM.out];exact H3.out)
     by_cases h4:m%8=4
     ·have d4:(m%8==4)=true:=by rw[beq_iff_eq];exact h4
      have HM4:=Lib.hid (show bs 0%8=4 by rw[HM.out];exact h4)
      by_cases hL2:L<2
      ·have HV:=Lib.hid (show rmV L bs=.tuple #[.agg #[.int .i64 0,.int .i64 0,.int .i64 0,.int .i64 0,.int .i64 0,.int .u32 0],.int .i64 0,.int .i64 0,.int .i64 21]by unfold rmV;rw[Sib.none hL0 HM3.out HM4.out hL2])
       clear h4
       go_wp2_with fail
       go_returns
       exact⟨by rw[HV.out],by repeat(first|exact HUW.out|refine below_last ?_ _)⟩
      ·skip
       obtain⟨x0,hx0e⟩:∃x,bs 1=x:=⟨_,rfl⟩
       have hx00:0≤x0:=by rw[←hx0e];exact(hb _).1
       have hx01:x0<256:=by rw[←hx0e];exact(hb _).2
       have c1:u.cell? ⟨ad.block,ad.off+1,none⟩=some (.int .u8 x0):=by have:=HCU.out _ _ (HC.out 1 (by omega));rw[hx0e]at this;simpa[Addr.add]using this
       have i1':1<L:=by omega
       have i1:(1:Int)<(L:Int):=by omega
       have HX:=Lib.hid hx0e
       have b1:bits .and .u8 (x0/8) 7=x0/8%8:=and7 _ (by omega) (by omega)
       have b2:bits .and .u8 x0 7=x0%8:=and7 _ hx00 hx01
       have v1:IntKind.i64.wrap (x0/8%8)=x0/8%8:=by rw[IntKind.wrap_i64];omega
       have v2:IntKind.i64.wrap (x0%8)=x0%8:=by rw[IntKind.wrap_i64];omega
       clear h4 hx0e
       by_cases hi:x0/8%8=4
       ·have e1:(x0/8%8==4)=true:=by rw[beq_iff_eq];exact hi
        have HS:=Lib.hid (show Sib L bs 2 (x0%8) (-1) 1 from .inr ⟨HM4.out,by omega,rfl,by rw[HX.out],by unfold sibI;rw[HX.out,if_pos hi],by unfold sibS;rw[HX.out,if_pos hi]⟩)
        clear hi
        go_wp2_with fail
        go_meet
        exact⟨_,_,_,_,HS.out,by rfl,rfl⟩
       ·have e1:(x0/8%8==4)=false:=by rw[beq_eq_false_iff_ne];exact hi
        have e2:(x0/8%8 != 4)=true:=by rw[bne_iff_ne];exact hi
        have hq:x0/64=0∨x0/64=1∨x0/64=2∨x0/64=3:=by omega
        rcases hq with hq|hq|hq|hq
        ·have HS:=Lib.hid (show Sib L bs 2 (x0%8) (x0/8%8) 1 from .inr ⟨HM4.out,by omega,rfl,by rw[HX.out],by unfold sibI;rw[HX.out,if_neg hi],by unfold sibS;rw[HX.out,if_neg hi,hq];rfl⟩)
         clear hi
         go_wp2_with fail
         go_meet
         exact⟨_,_,_,_,HS.out,by rfl,rfl⟩
        ·have HS:=Lib.hid (show Sib L bs 2 (x0%8) (x0/8%8) 2 from .inr ⟨HM4.out,by omega,rfl,by rw[HX.out],by unfold sibI;rw[HX.out,if_neg hi],by unfold sibS;rw[HX.out,if_neg hi,hq];rfl⟩)
         clear hi
         go_wp2_with fail
         go_meet
         exact⟨_,_,_,_,HS.out,by rfl,rfl⟩
        ·have HS:=Lib.hid (show Sib L bs 2 (x0%8) (x0/8%8) 4 from .inr ⟨HM4.out,by omega,rfl,by rw[HX.out],by unfold sibI;rw[HX.out,if_neg hi],by unfold sibS;rw[HX.out,if_neg hi,hq];rfl⟩)
         clear hi
         go_wp2_with fail
         go_meet
         exact⟨_,_,_,_,HS.out,by rfl,rfl⟩
        ·have HS:=Lib.hid (show Sib L bs 2 (x0%8) (x0/8%8) 8 from .inr ⟨HM4.out,by omega,rfl,by rw[HX.out],by unfold sibI;rw[HX.out,if_neg hi],by unfold sibS;rw[HX.out,if_neg hi,hq];rfl⟩)
         clear hi
         go_wp2_with fail
         go_meet
         exact⟨_,_,_,_,HS.out,by rfl,rfl⟩
     ·have d4:(m%8==4)=false:=by rw[beq_eq_false_iff_ne];exact h4
      have HS:=Lib.hid (show Sib L bs 1 (m%8) (-1) 1 from .inl ⟨by rw[HM.out];exact h4,rfl,by rw[HM.out],rfl,rfl⟩)
      clear h4
      go_wp2_with fail
      go_meet
      exact⟨_,_,_,_,HS.out,by rfl,rfl⟩
    case rest=>
     obtain⟨N,B,I,S,hsib,rfl,rfl⟩:=hcut
     have hrm:=hsib.rm hL0 (by rw[HM.out];exact H3.out)
     rw[HM.out]at hrm
     have hB:0≤B∧B<8:=by rcases hsib with⟨_,_,rfl,_,_⟩|⟨_,_,_,rfl,_,_⟩<;>omega
     have hmm:m/64=0∨m/64=1∨m/64=2:=by have:=H3.out;omega
     have hN:N=1∨N=2∧2≤L:=by rcases hsib with⟨_,rfl,_,_,_⟩|⟨_,h,rfl,_,_,_⟩;exact .inl rfl;exact .inr ⟨rfl,h⟩
     have HR:=Lib.hid hrm
     clear hsib hrm
     rcases hN with rfl|⟨rfl,hL2⟩
     ·rcases hmm with hmm|hmm|hmm
      ·by_cases hb5:B=5
       ·have f5:(B==5)=true:=by rw[beq_iff_eq];exact hb5
        by_cases hLa:L<5
        ·skip
         have HV:=Lib.hid (show rmV L bs=.tuple #[.agg #[.int .i64 0,.int .i64 0,.int .i64 0,.int .i64 0,.int .i64 0,.int .u32 0],.int .i64 0,.int .i64 0,.int .i64 21]by unfold rmV;rw[HR.out];simp[hmm,hb5,more9,hLa])
         go_wp2_with fail
         go_returns
         exact⟨by rw[HV.out],by repeat(first|exact HUW.out|refine below_last ?_ _)⟩
        ·skip
         obtain⟨x0,hx0e⟩:∃x,bs 1=x:=⟨_,rfl⟩
         have hx00:0≤x0:=by rw[←hx0e];exact(hb _).1
         have hx01:x0<256:=by rw[←hx0e];exact(hb _).2
         have c1:u.cell? ⟨ad.block,ad.off+1,none⟩=some (.int .u8 x0):=by have:=HCU.out _ _ (HC.out 1 (by omega));rw[hx0e]at this;simpa[Addr.add]using this
         have i1':1<L:=by omega
         have i1:(1:Int)<(L:Int):=by omega
         obtain⟨x1,hx1e⟩:∃x,bs 2=x:=⟨_,rfl⟩
         have hx10:0≤x1:=by rw[←hx1e];exact(hb _).1
         have hx11:x1<256:=by rw[←hx1e];exact(hb _).2
         have c2:u.cell? ⟨ad.block,ad.off+2,none⟩=some (.int .u8 x1):=by have:=HCU.out _ _ (HC.out 2 (by omega));rw[hx1e]at this;simpa[Addr.add]using this
         have i2':2<L:=by omega
         have i2:(2:Int)<(L:Int):=by omega
         obtain⟨x2,hx2e⟩:∃x,bs 3=x:=⟨_,rfl⟩
         have hx20:0≤x2:=by rw[←hx2e];exact(hb _).1
         have hx21:x2<256:=by rw[←hx2e];exact(hb _).2
         have c3:u.cell? ⟨ad.block,ad.off+3,none⟩=some (.int .u8 x2):=by have:=HCU.out _ _ (HC.out 3 (by omega));rw[hx2e]at this;simpa[Addr.add]using this
         have i3':3<L:=by omega
         have i3:(3:Int)<(L:Int):=by omega
         obtain⟨x3,hx3e⟩:∃x,bs 4=x:=⟨_,rfl⟩
         have hx30:0≤x3:=by rw[←hx3e];exact(hb _).1
         have hx31:x3<256:=by rw[←hx3e];exact(hb _).2
         have c4:u.cell? ⟨ad.block,ad.off+4,none⟩=some (.int .u8 x3):=by have:=HCU.out _ _ (HC.out 4 (by omega));rw[hx3e]at this;simpa[Addr.add]using this
         have i4':4<L:=by omega
         have i4:(4:Int)<(L:Int):=by omega
         have HV:=Lib.hid (show rmV L bs=.tuple #[.agg #[.int .i64 3,.int .i64 0,.int .i64 (-1),.int .i64 I,.int .i64 S,.int .u32 (four9 x0 x1 x2 x3)],.int .i64 (m/8%8),.int .i64 5,.int .i64 0]by unfold rmV;rw[HR.out];simp[hmm,hb5,more9,hLa,base9,disp9,hx0e,hx1e,hx2e,hx3e])
         clear hx0e hx1e hx2e hx3e
         go_wp2_with (go_at_call 51;refine(rfour_any x0 x1 x2 x3 _ _ _ ⟨hx00,hx01⟩ ⟨hx10,hx11⟩ ⟨hx20,hx21⟩ ⟨hx30,hx31⟩ (by omega) _ (cell_alloc (cell_alloc (cell_alloc (cell_alloc c1)))) (cell_alloc (cell_alloc (cell_alloc (cell_alloc c2)))) (cell_alloc (cell_alloc (cell_alloc (cell_alloc c3)))) (cell_alloc (cell_alloc (cell_alloc (cell_alloc c4))))).mono ?_;rintro e w' ⟨rfl,nq2,rfl⟩;simp only[drewN_alloc];have HU2:=Lib.hid (below_drewN HUW.out nq2);rw[←drewN_size u nq2];generalize u.drewN nq2=u2 at HU2 ⊢)
         go_returns
         exact⟨by rw[HV.out],by repeat(first|exact HU2.out|refine below_last ?_ _)⟩
       ·have f5:(B==5)=false:=by rw[beq_eq_false_iff_ne];exact hb5
        have hLb:¬L<1:=by omega
        have HV:=Lib.hid (show rmV L bs=.tuple #[.agg #[.int .i64 3,.int .i64 0,.int .i64 B,.int .i64 I,.int .i64 S,.int .u32 0],.int .i64 (m/8%8),.int .i64 1,.int .i64 0]by unfold rmV;rw[HR.out];simp[hmm,hb5,more9,hLb,base9,disp9])
        go_wp2_with fail
        go_returns
        exact⟨by rw[HV.out],by repeat(first|exact HUW.out|refine below_last ?_ _)⟩
      ·by_cases hLa:L<2
       ·skip
        have HV:=Lib.hid (show rmV L bs=.tuple #[.agg #[.int .i64 0,.int .i64 0,.int .i64 0,.int .i64 0,.int .i64 0,.int .u32 0],.int .i64 0,.int .i64 0,.int .i64 21]by unfold rmV;rw[HR.out];simp[hmm,more9,hLa])
        go_wp2_with fail
        go_returns
        exact⟨by rw[HV.out],by repeat(first|exact HUW.out|refine below_last ?_ _)⟩
       ·skip
        obtain⟨x0,hx0e⟩:∃x,bs 1=x:=⟨_,rfl⟩
        have hx00:0≤x0:=by rw[←hx0e];exact(hb _).1
        have hx01:x0<256:=by rw[←hx0e];exact(hb _).2
        have c1:u.cell? ⟨ad.block,ad.off+1,none⟩=some (.int .u8 x0):=by have:=HCU.out _ _ (HC.out 1 (by omega));rw[hx0e]at this;simpa[Addr.add]using this
        have i1':1<L:=by omega
        have i1:(1:Int)<(L:Int):=by omega
        have HV:=Lib.hid (show rmV L bs=.tuple #[.agg #[.int .i64 3,.int .i64 0,.int .i64 B,.int .i64 I,.int .i64 S,.int .u32 (sx9 x0)],.int .i64 (m/8%8),.int .i64 2,.int .i64 0]by unfold rmV;rw[HR.out];simp[hmm,more9,hLa,base9,disp9,hx0e])
        clear hx0e
        go_wp2_with (go_at_call 50;refine(rsx_any _ hx00 hx01 _).mono ?_;rintro e w' ⟨rfl,rfl⟩)
        go_returns
        exact⟨by rw[HV.out],by repeat(first|exact HUW.out|refine below_last ?_ _)⟩
      ·by_cases hLa:L<5
       ·skip
        have HV:=Lib.hid (show rmV L bs=.tuple #[.agg #[.int .i64 0,.int .i64 0,.int .i64 0,.int .i64 0,.int .i64 0,.int .u32 0],.int .i64 0,.int .i64 0,.int .i64 21]by unfold rmV;rw[HR.out];simp[hmm,more9,hLa])
        go_wp2_with fail
        go_returns
        exact⟨by rw[HV.out],by repeat(first|exact HUW.out|refine below_last ?_ _)⟩
       ·skip
        obtain⟨x0,hx0e⟩:∃x,bs 1=x:=⟨_,rfl⟩
        have hx00:0≤x0:=by rw[←hx0e];exact(hb _).1
        have hx01:x0<256:=by rw[←hx0e];exact(hb _).2
        have c1:u.cell? ⟨ad.block,ad.off+1,none⟩=some (.int .u8 x0):=by have:=HCU.out _ _ (HC.out 1 (by omega));rw[hx0e]at this;simpa[Addr.add]using this
        have i1':1<L:=by omega
        have i1:(1:Int)<(L:Int):=by omega
        obtain⟨x1,hx1e⟩:∃x,bs 2=x:=⟨_,rfl⟩
        have hx10:0≤x1:=by rw[←hx1e];exact(hb _).1
        have hx11:x1<256:=by rw[←hx1e];exact(hb _).2
        have c2:u.cell? ⟨ad.block,ad.off+2,none⟩=some (.int .u8 x1):=by have:=HCU.out _ _ (HC.out 2 (by omega));rw[hx1e]at this;simpa[Addr.add]using this
        have i2':2<L:=by omega
        have i2:(2:Int)<(L:Int):=by omega
        obtain⟨x2,hx2e⟩:∃x,bs 3=x:=⟨_,rfl⟩
        have hx20:0≤x2:=by rw[←hx2e];exact(hb _).1
        have hx21:x2<256:=by rw[←hx2e];exact(hb _).2
        have c3:u.cell? ⟨ad.block,ad.off+3,none⟩=some (.int .u8 x2):=by have:=HCU.out _ _ (HC.out 3 (by omega));rw[hx2e]at this;simpa[Addr.add]using this
        have i3':3<L:=by omega
        have i3:(3:Int)<(L:Int):=by omega
        obtain⟨x3,hx3e⟩:∃x,bs 4=x:=⟨_,rfl⟩
        have hx30:0≤x3:=by rw[←hx3e];exact(hb _).1
        have hx31:x3<256:=by rw[←hx3e];exact(hb _).2
        have c4:u.cell? ⟨ad.block,ad.off+4,none⟩=some (.int .u8 x3):=by have:=HCU.out _ _ (HC.out 4 (by omega));rw[hx3e]at this;simpa[Addr.add]using this
        have i4':4<L:=by omega
        have i4:(4:Int)<(L:Int):=by omega
        have HV:=Lib.hid (show rmV L bs=.tuple #[.agg #[.int .i64 3,.int .i64 0,.int .i64 B,.int .i64 I,.int .i64 S,.int .u32 (four9 x0 x1 x2 x3)],.int .i64 (m/8%8),.int .i64 5,.int .i64 0]by unfold rmV;rw[HR.out];simp[hmm,more9,hLa,base9,disp9,hx0e,hx1e,hx2e,hx3e])
        clear hx0e hx1e hx2e hx3e
        go_wp2_with (go_at_call 51;refine(rfour_any x0 x1 x2 x3 _ _ _ ⟨hx00,hx01⟩ ⟨hx10,hx11⟩ ⟨hx20,hx21⟩ ⟨hx30,hx31⟩ (by omega) _ (cell_alloc (cell_alloc (cell_alloc (cell_alloc c1)))) (cell_alloc (cell_alloc (cell_alloc (cell_alloc c2)))) (cell_alloc (cell_alloc (cell_alloc (cell_alloc c3)))) (cell_alloc (cell_alloc (cell_alloc (cell_alloc c4))))).mono ?_;rintro e w' ⟨rfl,nq2,rfl⟩;simp only[drewN_alloc];have HU2:=Lib.hid (below_drewN HUW.out nq2);rw[←drewN_size u nq2];generalize u.drewN nq2=u2 at HU2 ⊢)
        go_returns
        exact⟨by rw[HV.out],by repeat(first|exact HU2.out|refine below_last ?_ _)⟩
     ·rcases hmm with hmm|hmm|hmm
      ·by_cases hb5:B=5
       ·have f5:(B==5)=true:=by rw[beq_iff_eq];exact hb5
        by_cases hLa:L<6
        ·skip
         have HV:=Lib.hid (show rmV L bs=.tuple #[.agg #[.int .i64 0,.int .i64 0,.int .i64 0,.int .i64 0,.int .i64 0,.int .u32 0],.int .i64 0,.int .i64 0,.int .i64 21]by unfold rmV;rw[HR.out];simp[hmm,hb5,more9,hLa])
         go_wp2_with fail
         go_returns
         exact⟨by rw[HV.out],by repeat(first|exact HUW.out|refine below_last ?_ _)⟩
        ·skip
         obtain⟨x0,hx0e⟩:∃x,bs 2=x:=⟨_,rfl⟩
         have hx00:0≤x0:=by rw[←hx0e];exact(hb _).1
         have hx01:x0<256:=by rw[←hx0e];exact(hb _).2
         have c2:u.cell? ⟨ad.block,ad.off+2,none⟩=some (.int .u8 x0):=by have:=HCU.out _ _ (HC.out 2 (by omega));rw[hx0e]at this;simpa[Addr.add]using this
         have i2':2<L:=by omega
         have i2:(2:Int)<(L:Int):=by omega
         obtain⟨x1,hx1e⟩:∃x,bs 3=x:=⟨_,rfl⟩
         have hx10:0≤x1:=by rw[←hx1e];exact(hb _).1
         have hx11:x1<256:=by rw[←hx1e];exact(hb _).2
         have c3:u.cell? ⟨ad.block,ad.off+3,none⟩=some (.int .u8 x1):=by have:=HCU.out _ _ (HC.out 3 (by omega));rw[hx1e]at this;simpa[Addr.add]using this
         have i3':3<L:=by omega
         have i3:(3:Int)<(L:Int):=by omega
         obtain⟨x2,hx2e⟩:∃x,bs 4=x:=⟨_,rfl⟩
         have hx20:0≤x2:=by rw[←hx2e];exact(hb _).1
         have hx21:x2<256:=by rw[←hx2e];exact(hb _).2
         have c4:u.cell? ⟨ad.block,ad.off+4,none⟩=some (.int .u8 x2):=by have:=HCU.out _ _ (HC.out 4 (by omega));rw[hx2e]at this;simpa[Addr.add]using this
         have i4':4<L:=by omega
         have i4:(4:Int)<(L:Int):=by omega
         obtain⟨x3,hx3e⟩:∃x,bs 5=x:=⟨_,rfl⟩
         have hx30:0≤x3:=by rw[←hx3e];exact(hb _).1
         have hx31:x3<256:=by rw[←hx3e];exact(hb _).2
         have c5:u.cell? ⟨ad.block,ad.off+5,none⟩=some (.int .u8 x3):=by have:=HCU.out _ _ (HC.out 5 (by omega));rw[hx3e]at this;simpa[Addr.add]using this
         have i5':5<L:=by omega
         have i5:(5:Int)<(L:Int):=by omega
         have HV:=Lib.hid (show rmV L bs=.tuple #[.agg #[.int .i64 3,.int .i64 0,.int .i64 (-1),.int .i64 I,.int .i64 S,.int .u32 (four9 x0 x1 x2 x3)],.int .i64 (m/8%8),.int .i64 6,.int .i64 0]by unfold rmV;rw[HR.out];simp[hmm,hb5,more9,hLa,base9,disp9,hx0e,hx1e,hx2e,hx3e])
         clear hx0e hx1e hx2e hx3e
         go_wp2_with (go_at_call 51;refine(rfour_any x0 x1 x2 x3 _ _ _ ⟨hx00,hx01⟩ ⟨hx10,hx11⟩ ⟨hx20,hx21⟩ ⟨hx30,hx31⟩ (by omega) _ (cell_alloc (cell_alloc (cell_alloc (cell_alloc c2)))) (cell_alloc (cell_alloc (cell_alloc (cell_alloc c3)))) (cell_alloc (cell_alloc (cell_alloc (cell_alloc c4)))) (cell_alloc (cell_alloc (cell_alloc (cell_alloc c5))))).mono ?_;rintro e w' ⟨rfl,nq2,rfl⟩;simp only[drewN_alloc];have HU2:=Lib.hid (below_drewN HUW.out nq2);rw[←drewN_size u nq2];generalize u.drewN nq2=u2 at HU2 ⊢)
         go_returns
         exact⟨by rw[HV.out],by repeat(first|exact HU2.out|refine below_last ?_ _)⟩
       ·have f5:(B==5)=false:=by rw[beq_eq_false_iff_ne];exact hb5
        have hLb:¬L<2:=by omega
        have HV:=Lib.hid (show rmV L bs=.tuple #[.agg #[.int .i64 3,.int .i64 0,.int .i64 B,.int .i64 I,.int .i64 S,.int .u32 0],.int .i64 (m/8%8),.int .i64 2,.int .i64 0]by unfold rmV;rw[HR.out];simp[hmm,hb5,more9,hLb,base9,disp9])
        go_wp2_with fail
        go_returns
        exact⟨by rw[HV.out],by repeat(first|exact HUW.out|refine below_last ?_ _)⟩
      ·by_cases hLa:L<3
       ·skip
        have HV:=Lib.hid (show rmV L bs=.tuple #[.agg #[.int .i64 0,.int .i64 0,.int .i64 0,.int .i64 0,.int .i64 0,.int .u32 0],.int .i64 0,.int .i64 0,.int .i64 21]by unfold rmV;rw[HR.out];simp[hmm,more9,hLa])
        go_wp2_with fail
        go_returns
        exact⟨by rw[HV.out],by repeat(first|exact HUW.out|refine below_last ?_ _)⟩
       ·skip
        obtain⟨x0,hx0e⟩:∃x,bs 2=x:=⟨_,rfl⟩
        have hx00:0≤x0:=by rw[←hx0e];exact(hb _).1
        have hx01:x0<256:=by rw[←hx0e];exact(hb _).2
        have c2:u.cell? ⟨ad.block,ad.off+2,none⟩=some (.int .u8 x0):=by have:=HCU.out _ _ (HC.out 2 (by omega));rw[hx0e]at this;simpa[Addr.add]using this
        have i2':2<L:=by omega
        have i2:(2:Int)<(L:Int):=by omega
        have HV:=Lib.hid (show rmV L bs=.tuple #[.agg #[.int .i64 3,.int .i64 0,.int .i64 B,.int .i64 I,.int .i64 S,.int .u32 (sx9 x0)],.int .i64 (m/8%8),.int .i64 3,.int .i64 0]by unfold rmV;rw[HR.out];simp[hmm,more9,hLa,base9,disp9,hx0e])
        clear hx0e
        go_wp2_with (go_at_call 50;refine(rsx_any _ hx00 hx01 _).mono ?_;rintro e w' ⟨rfl,rfl⟩)
        go_returns
        exact⟨by rw[HV.out],by repeat(first|exact HUW.out|refine below_last ?_ _)⟩
      ·by_cases hLa:L<6
       ·skip
        have HV:=Lib.hid (show rmV L bs=.tuple #[.agg #[.int .i64 0,.int .i64 0,.int .i64 0,.int .i64 0,.int .i64 0,.int .u32 0],.int .i64 0,.int .i64 0,.int .i64 21]by unfold rmV;rw[HR.out];simp[hmm,more9,hLa])
        go_wp2_with fail
        go_returns
        exact⟨by rw[HV.out],by repeat(first|exact HUW.out|refine below_last ?_ _)⟩
       ·skip
        obtain⟨x0,hx0e⟩:∃x,bs 2=x:=⟨_,rfl⟩
        have hx00:0≤x0:=by rw[←hx0e];exact(hb _).1
        have hx01:x0<256:=by rw[←hx0e];exact(hb _).2
        have c2:u.cell? ⟨ad.block,ad.off+2,none⟩=some (.int .u8 x0):=by have:=HCU.out _ _ (HC.out 2 (by omega));rw[hx0e]at this;simpa[Addr.add]using this
        have i2':2<L:=by omega
        have i2:(2:Int)<(L:Int):=by omega
        obtain⟨x1,hx1e⟩:∃x,bs 3=x:=⟨_,rfl⟩
        have hx10:0≤x1:=by rw[←hx1e];exact(hb _).1
        have hx11:x1<256:=by rw[←hx1e];exact(hb _).2
        have c3:u.cell? ⟨ad.block,ad.off+3,none⟩=some (.int .u8 x1):=by have:=HCU.out _ _ (HC.out 3 (by omega));rw[hx1e]at this;simpa[Addr.add]using this
        have i3':3<L:=by omega
        have i3:(3:Int)<(L:Int):=by omega
        obtain⟨x2,hx2e⟩:∃x,bs 4=x:=⟨_,rfl⟩
        have hx20:0≤x2:=by rw[←hx2e];exact(hb _).1
        have hx21:x2<256:=by rw[←hx2e];exact(hb _).2
        have c4:u.cell? ⟨ad.block,ad.off+4,none⟩=some (.int .u8 x2):=by have:=HCU.out _ _ (HC.out 4 (by omega));rw[hx2e]at this;simpa[Addr.add]using this
        have i4':4<L:=by omega
        have i4:(4:Int)<(L:Int):=by omega
        obtain⟨x3,hx3e⟩:∃x,bs 5=x:=⟨_,rfl⟩
        have hx30:0≤x3:=by rw[←hx3e];exact(hb _).1
        have hx31:x3<256:=by rw[←hx3e];exact(hb _).2
        have c5:u.cell? ⟨ad.block,ad.off+5,none⟩=some (.int .u8 x3):=by have:=HCU.out _ _ (HC.out 5 (by omega));rw[hx3e]at this;simpa[Addr.add]using this
        have i5':5<L:=by omega
        have i5:(5:Int)<(L:Int):=by omega
        have HV:=Lib.hid (show rmV L bs=.tuple #[.agg #[.int .i64 3,.int .i64 0,.int .i64 B,.int .i64 I,.int .i64 S,.int .u32 (four9 x0 x1 x2 x3)],.int .i64 (m/8%8),.int .i64 6,.int .i64 0]by unfold rmV;rw[HR.out];simp[hmm,more9,hLa,base9,disp9,hx0e,hx1e,hx2e,hx3e])
        clear hx0e hx1e hx2e hx3e
        go_wp2_with (go_at_call 51;refine(rfour_any x0 x1 x2 x3 _ _ _ ⟨hx00,hx01⟩ ⟨hx10,hx11⟩ ⟨hx20,hx21⟩ ⟨hx30,hx31⟩ (by omega) _ (cell_alloc (cell_alloc (cell_alloc (cell_alloc c2)))) (cell_alloc (cell_alloc (cell_alloc (cell_alloc c3)))) (cell_alloc (cell_alloc (cell_alloc (cell_alloc c4)))) (cell_alloc (cell_alloc (cell_alloc (cell_alloc c5))))).mono ?_;rintro e w' ⟨rfl,nq2,rfl⟩;simp only[drewN_alloc];have HU2:=Lib.hid (below_drewN HUW.out nq2);rw[←drewN_size u nq2];generalize u.drewN nq2=u2 at HU2 ⊢)
        go_returns
        exact⟨by rw[HV.out],by repeat(first|exact HU2.out|refine below_last ?_ _)⟩
theorem addr_add(b o j:Nat):(⟨b,o,none⟩:Addr).add j=⟨b,o+j,none⟩:=by unfold Addr.add;split<;>simp_all
theorem slc_new{k:IntKind}(w:World)(C:Array Value)(T:TypeId)(L cap:Nat)(bs:Nat→Int)(hL:L≤cap)(h:∀i,i<L→C[i]?=some (.int k (bs i))):Slc k (w.alloc (.cells C T)) (.slice (some ⟨w.heap.size,0,none⟩) L cap) L bs:=
 .inr ⟨_,_,rfl,hL,fun i hi=>by rw[addr_add,Nat.zero_add,World.cell?_alloc_new,h i hi]⟩
theorem below_step{w a b:World}(h:Below w.heap.size w a)(k:Below a.heap.size a b):Below w.heap.size w b:=h.trans (k.mono h.size)
def lst(l:List Int):Nat→Int:=fun i=>l.getD i 0
def putOk(reg:Int)(o:Opd):Prop:=0≤reg∧reg<8∧(regOk o∨memOk o)
instance (reg:Int) (o:Opd):Decidable (putOk reg o):=by unfold putOk;infer_instance
theorem lst_ok{l:List Int}(h:∀x∈l,0≤x∧x<256)(i:Nat):0≤lst l i∧lst l i<256:=by
 unfold lst
 by_cases hi:i<l.length
 ·rw[List.getD_eq_getElem?_getD,List.getElem?_eq_getElem hi];exact h _ (List.getElem_mem hi)
 ·rw[List.getD_eq_getElem?_getD,List.getElem?_eq_none (by omega)];exact⟨Int.le_refl _,by decide⟩
theorem rmV_some{L:Nat}{bs:Nat→Int}{o:Opd}{r:Int}{n:Nat}(h:rmF L bs=some (o,r,n)):rmV L bs=.tuple #[.agg #[.int .i64 o.kind,.int .i64 o.reg,.int .i64 o.base,.int .i64 o.index,.int .i64 o.scale,.int .u32 o.disp],.int .i64 r,.int .i64 n,.int .i64 0]:=by unfold rmV;rw[h]
theorem rmV_none{L:Nat}{bs:Nat→Int}(h:rmF L bs=none):rmV L bs=.tuple #[.agg #[.int .i64 0,.int .i64 0,.int .i64 0,.int .i64 0,.int .i64 0,.int .u32 0],.int .i64 0,.int .i64 0,.int .i64 21]:=by unfold rmV;rw[h]
theorem cell_block{u:World}{B:Nat}{C:Array Value}{T:TypeId}(h:u.heap[B]?=some (.cells C T (0,0)))(j:Nat):u.cell? ⟨B,j,none⟩=C[j]?∧u.frozen? ⟨B,j,none⟩=false:=by
 unfold World.cell? World.frozen?
 simp only
 rw[h]
 simp
theorem range_block{u:World}{B:Nat}{C:Array Value}{T:TypeId}(h:u.heap[B]?=some (.cells C T (0,0))):u.rangeAt B 0 C.toList:=fun j v hv=>by
 rw[Nat.zero_add,(cell_block h j).1]
 simpa using hv
theorem there_block{u:World}{B:Nat}{C:Array Value}{T:TypeId}(h:u.heap[B]?=some (.cells C T (0,0)))(o n:Nat)(hn:o+n≤C.size):u.there B o n:=fun j hj=>by
 rw[(cell_block h (o+j)).1,(cell_block h (o+j)).2,Array.getElem?_eq_getElem (by omega)]
 exact⟨rfl,rfl⟩
theorem below_setCells{n:Nat}{a:World}{B:Nat}(hB:n≤B):∀(vs:List Value) (o:Nat) (u:World),Below n a u→Below n a (u.setCells B o vs)
 |[],_,_,h=>h
 |v :: vs,o,u,h=>below_setCells hB vs (o+1) _ (h.setCell (by exact hB) v)
theorem load_range{P:Program}{u:World}{B o:Nat}{cs:List Value}(T:TypeId)(d:TypeDesc)(hu:P.underlying T=some d)(hd:d.isRow=true)(hi:(P.info? T).map (·.size)=some cs.length)(h:u.rangeAt B o cs):(loadVar T ⟨B,o,none⟩).run P u=.ok (.agg cs.toArray) u:=
 run_loadVar_mid u B o T cs d h hu hd hi
def setL(C:Array Value):Nat→List Value→Array Value
 |_,[]=>C
 |o,v :: vs=>setL (C.setIfInBounds o v) (o+1) vs
theorem block_setCell{u:World}{B:Nat}{C:Array Value}{T:TypeId}(h:u.heap[B]?=some (.cells C T (0,0)))(o:Nat)(v:Value):(u.setCell ⟨B,o,none⟩ v).heap[B]?=some (.cells (C.setIfInBounds o v) T (0,0)):=by
 unfold World.setCell
 simp only[Array.getElem?_modify]
 rw[h]
 simp
theorem block_setCells{B:Nat}{T:TypeId}:∀(vs:List Value) (o:Nat) (u:World) (C:Array Value),u.heap[B]?=some (.cells C T (0,0))→(u.setCells B o vs).heap[B]?=some (.cells (setL C o vs) T (0,0))
 |[],_,_,_,h=>h
 |v :: vs,o,_,_,h=>block_setCells vs (o+1) _ _ (block_setCell h o v)
theorem other_setCell{u:World}{B k:Nat}(hk:k≠B)(o:Nat)(v:Value):(u.setCell ⟨B,o,none⟩ v).heap[k]?=u.heap[k]?:=by
 unfold World.setCell
 simp only[Array.getElem?_modify]
 exact if_neg (fun e=>hk e.symm)
theorem other_setCells{B k:Nat}(hk:k≠B):∀(vs:List Value) (o:Nat) (u:World),(u.setCells B o vs).heap[k]?=u.heap[k]?
 |[],_,_=>rfl
 |v :: vs,o,_=>(other_setCells hk vs (o+1) _).trans (other_setCell hk o v)
theorem results_cell_tmp{P:Program}{fn:Func}{a b:Nat}{T:TypeId}{tmps:Array Value}{p:Addr}{c v:Value}{u:World}(hr:fn.results=#[.cell a T,.tmp b])(ha:tmps.getD a undef=.pointer (some p))(hb:tmps.getD b undef=v)(hl:(loadVar T p).run P u=.ok c u):(results fn tmps).run P u=.ok (.tuple #[c,v]) u:=by
 have h:results fn tmps=(do
   let x ←(do loadVar T (←asAddr (tmps.getD a undef)))
   let y ←pure (tmps.getD b undef)
   pure (.tuple #[x,y])):=by
  unfold results
  rw[hr]
  simp
 rw[h,ha,hb]
 simp only[asAddr,Sem.run_bind,Sem.run_pure,Result.andThen,hl]
end Go.Proofs.YtmdncgfheeijaaaGreat
