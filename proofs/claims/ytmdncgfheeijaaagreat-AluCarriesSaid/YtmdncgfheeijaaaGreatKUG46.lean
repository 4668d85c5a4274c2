import Derived.KernelRfl
import Derived.Test.YtmdncgfheeijaaaGreatKUG25
import Derived.Test.YtmdncgfheeijaaaGreatKUG43
import Derived.Test.YtmdncgfheeijaaaGreatKUG44
import Derived.Test.YtmdncgfheeijaaaGreatKUG45
namespace Go.Proofs.YtmdncgfheeijaaaGreat
section
open Go.ChangeShapes Go.WideShapes Go.ChangeAt Go.RowKit
set_option maxRecDepth 100000
set_option maxHeartbeats 4000000
theorem rone_z0(v:Value)(bs:Nat→Int)(w:World)(hs:Slc .u8 w v 0 bs):
  Calls Tryz.prog 10 #[v] w fun e w'=>e=.returned (insR (zeroI,21))∧Below w.heap.size w w':=by
 have hv:(∃cap,v=.slice none 0 cap)∨∃ad cap,v=.slice (some ad) 0 cap:=by
  rcases hs with⟨rfl,_⟩|⟨ad,cap,rfl,_⟩
  ·exact .inl ⟨0,rfl⟩
  ·exact .inr ⟨ad,cap,rfl⟩
 clear hs
 obtain⟨hbl0,_,hR0,_⟩:=ini0 w
 have HBL0:=Lib.hid hbl0
 have HR0:=Lib.hid hR0
 have HBL1:=Lib.hid (below_last (Below.refl _ w) (.cells zeroA 34))
 have HR1:=Lib.hid (there_alloc_new w zeroA 34 18 (by decide))
 clear hbl0 hR0
 rcases hv with⟨cap,rfl⟩|⟨ad,cap,rfl⟩
 all_goals
  go_enter Tryz.func10,Tryz.ntmps10
  go_wp2_with (refine store_ins rfl (.tmp 2) (.tmp 21) rfl w.heap.size rfl zeroI rfl HR1.out ?_;intro Y hY hl;have HY:=Lib.hid hY;have HL:=Lib.hid hl;clear hY hl)
  refine bodyPost_ret (results_cell_tmp rfl rfl rfl HL.out) rfl ⟨rfl,?_⟩
  rw[HY.out]
  exact below_setCells (Nat.le_refl _) _ _ _ HBL1.out
theorem rone_z1(v:Value)(L:Nat)(bs:Nat→Int)(_hb:∀i,0≤bs i∧bs i<256)(_hL:L≤1099511627776)(w:World)(hs:Slc .u8 w v L bs)(h1:bs 0=243)(hL2:L=1):
  Calls Tryz.prog 10 #[v] w fun e w'=>e=.returned (insR (zeroI,21))∧Below w.heap.size w w':=by
 rcases id hs with⟨_,h00⟩|⟨ad,cap,rfl,hl,hc⟩
 ·omega
 have hA0:w.cell? ad=some (.int .u8 (bs 0)):=by simpa[Addr.add]using hc 0 (by omega)
 have hA1:∀o,(w.alloc o).cell? ad=some (.int .u8 (bs 0)):=fun o=>cell_alloc hA0
 have jx0:(0:Int)<(L:Int):=by omega
 have e0:((L:Int)==0)=false:=by simp;omega
 have e0':(L==0)=false:=by simp;omega
 rw[h1]at hA0 hA1
 have l2:decide ((L:Int)<2)=true:=by simp;omega
 have l2':decide (L<2)=true:=by simp;omega
 obtain⟨hbl0,_,hR0,_⟩:=ini0 w
 have HBL0:=Lib.hid hbl0
 have HR0:=Lib.hid hR0
 have HBL1:=Lib.hid (below_last (Below.refl _ w) (.cells zeroA 34))
 have HR1:=Lib.hid (there_alloc_new w zeroA 34 18 (by decide))
 clear hbl0 hR0
 clear hs _hb hc hl h1
 go_enter Tryz.func10,Tryz.ntmps10
 go_wp2_with (refine store_ins rfl (.tmp 2) (.tmp 51) rfl w.heap.size rfl zeroI rfl HR0.out ?_;intro Y hY hl;have HY:=Lib.hid hY;have HL:=Lib.hid hl;clear hY hl)
 refine bodyPost_ret (results_cell_tmp rfl rfl rfl HL.out) rfl ⟨rfl,?_⟩
 rw[HY.out]
 exact below_setCells (Nat.le_refl _) _ _ _ HBL0.out
theorem rone_z2(v:Value)(L:Nat)(bs:Nat→Int)(_hb:∀i,0≤bs i∧bs i<256)(_hL:L≤1099511627776)(w:World)(hs:Slc .u8 w v L bs)(h1:bs 0=243)(hL2:2≤L)(n164:bs 1≠164)(n165:bs 1≠165)(n170:bs 1≠170)(n171:bs 1≠171):
  Calls Tryz.prog 10 #[v] w fun e w'=>e=.returned (insR (zeroI,22))∧Below w.heap.size w w':=by
 rcases id hs with⟨_,h00⟩|⟨ad,cap,rfl,hl,hc⟩
 ·omega
 have hA0:w.cell? ad=some (.int .u8 (bs 0)):=by simpa[Addr.add]using hc 0 (by omega)
 have hA1:∀o,(w.alloc o).cell? ad=some (.int .u8 (bs 0)):=fun o=>cell_alloc hA0
 have hB1:w.cell? ⟨ad.block,ad.off+1,none⟩=some (.int .u8 (bs 1)):=by simpa[Addr.add]using hc 1 (by omega)
 have hC1:∀o o',((w.alloc o).alloc o').cell? ⟨ad.block,ad.off+1,none⟩=some (.int .u8 (bs 1)):=fun o o'=>cell_alloc (cell_alloc hB1)
 have jx0:(0:Int)<(L:Int):=by omega
 have e0:((L:Int)==0)=false:=by simp;omega
 have e0':(L==0)=false:=by simp;omega
 have jx1:(1:Int)<(L:Int):=by omega
 rw[h1]at hA0 hA1
 have l2:decide ((L:Int)<2)=false:=by simp;omega
 have l2':decide (L<2)=false:=by simp;omega
 have r164:(bs 1==164)=false:=by simpa using n164
 have q164:(bs 1 != 164)=true:=by simpa using n164
 have r165:(bs 1==165)=false:=by simpa using n165
 have q165:(bs 1 != 165)=true:=by simpa using n165
 have r170:(bs 1==170)=false:=by simpa using n170
 have q170:(bs 1 != 170)=true:=by simpa using n170
 have r171:(bs 1==171)=false:=by simpa using n171
 have q171:(bs 1 != 171)=true:=by simpa using n171
 obtain⟨hbl0,_,hR0,_⟩:=ini0 w
 have HBL0:=Lib.hid hbl0
 have HR0:=Lib.hid hR0
 have HBL1:=Lib.hid (below_last (Below.refl _ w) (.cells zeroA 34))
 have HR1:=Lib.hid (there_alloc_new w zeroA 34 18 (by decide))
 clear hbl0 hR0
 clear hs _hb hc hl h1
 go_enter Tryz.func10,Tryz.ntmps10
 go_wp2_with (refine store_ins rfl (.tmp 2) (.tmp 69) rfl w.heap.size rfl zeroI rfl HR0.out ?_;intro Y hY hl;have HY:=Lib.hid hY;have HL:=Lib.hid hl;clear hY hl)
 refine bodyPost_ret (results_cell_tmp rfl rfl rfl HL.out) rfl ⟨rfl,?_⟩
 rw[HY.out]
 exact below_setCells (Nat.le_refl _) _ _ _ HBL0.out
theorem rone_z3(v:Value)(L:Nat)(bs:Nat→Int)(_hb:∀i,0≤bs i∧bs i<256)(_hL:L≤1099511627776)(w:World)(hs:Slc .u8 w v L bs)(h1:bs 0=15)(hL2:L=1):
  Calls Tryz.prog 10 #[v] w fun e w'=>e=.returned (insR (zeroI,21))∧Below w.heap.size w w':=by
 rcases id hs with⟨_,h00⟩|⟨ad,cap,rfl,hl,hc⟩
 ·omega
 have hA0:w.cell? ad=some (.int .u8 (bs 0)):=by simpa[Addr.add]using hc 0 (by omega)
 have hA1:∀o,(w.alloc o).cell? ad=some (.int .u8 (bs 0)):=fun o=>cell_alloc hA0
 have jx0:(0:Int)<(L:Int):=by omega
 have e0:((L:Int)==0)=false:=by simp;omega
 have e0':(L==0)=false:=by simp;omega
 rw[h1]at hA0 hA1
 have l2:decide ((L:Int)≤1)=true:=by simp;omega
 have l2':decide (L≤1)=true:=by simp;omega
 obtain⟨hbl0,_,hR0,_⟩:=ini0 w
 have HBL0:=Lib.hid hbl0
 have HR0:=Lib.hid hR0
 have HBL1:=Lib.hid (below_last (Below.refl _ w) (.cells zeroA 34))
 have HR1:=Lib.hid (there_alloc_new w zeroA 34 18 (by decide))
 clear hbl0 hR0
 clear hs _hb hc hl h1
 go_enter Tryz.func10,Tryz.ntmps10
 go_wp2_with (refine store_ins rfl (.tmp 2) (.tmp 96) rfl w.heap.size rfl zeroI rfl HR0.out ?_;intro Y hY hl;have HY:=Lib.hid hY;have HL:=Lib.hid hl;clear hY hl)
 refine bodyPost_ret (results_cell_tmp rfl rfl rfl HL.out) rfl ⟨rfl,?_⟩
 rw[HY.out]
 exact below_setCells (Nat.le_refl _) _ _ _ HBL0.out
theorem rone_z4(v:Value)(L:Nat)(bs:Nat→Int)(_hb:∀i,0≤bs i∧bs i<256)(_hL:L≤1099511627776)(w:World)(hs:Slc .u8 w v L bs)(p:Int)(hp:p=242∨p=102)(h1:bs 0=p)(hL2:L=1):
  Calls Tryz.prog 10 #[v] w fun e w'=>e=.returned (insR (zeroI,21))∧Below w.heap.size w w':=by
 rcases id hs with⟨_,h00⟩|⟨ad,cap,rfl,hl,hc⟩
 ·omega
 have hA0:w.cell? ad=some (.int .u8 (bs 0)):=by simpa[Addr.add]using hc 0 (by omega)
 have hA1:∀o,(w.alloc o).cell? ad=some (.int .u8 (bs 0)):=fun o=>cell_alloc hA0
 have jx0:(0:Int)<(L:Int):=by omega
 have e0:((L:Int)==0)=false:=by simp;omega
 have e0':(L==0)=false:=by simp;omega
 rw[h1]at hA0 hA1
 have l2:decide ((L:Int)<2)=true:=by simp;omega
 have l2':decide (L<2)=true:=by simp;omega
 obtain⟨hbl0,_,hR0,_⟩:=ini0 w
 have HBL0:=Lib.hid hbl0
 have HR0:=Lib.hid hR0
 have HBL1:=Lib.hid (below_last (Below.refl _ w) (.cells zeroA 34))
 have HR1:=Lib.hid (there_alloc_new w zeroA 34 18 (by decide))
 clear hbl0 hR0
 clear hs _hb hc hl h1
 rcases hp with rfl|rfl
 all_goals
  go_enter Tryz.func10,Tryz.ntmps10
  go_wp2_with (refine store_ins rfl (.tmp 2) (.tmp 86) rfl w.heap.size rfl zeroI rfl HR0.out ?_;intro Y hY hl;have HY:=Lib.hid hY;have HL:=Lib.hid hl;clear hY hl)
  refine bodyPost_ret (results_cell_tmp rfl rfl rfl HL.out) rfl ⟨rfl,?_⟩
  rw[HY.out]
  exact below_setCells (Nat.le_refl _) _ _ _ HBL0.out
theorem rone_z5(v:Value)(L:Nat)(bs:Nat→Int)(_hb:∀i,0≤bs i∧bs i<256)(_hL:L≤1099511627776)(w:World)(hs:Slc .u8 w v L bs)(p:Int)(hp:p=242∨p=102)(h1:bs 0=p)(hL2:2≤L)(n:bs 1≠15):
  Calls Tryz.prog 10 #[v] w fun e w'=>e=.returned (insR (zeroI,22))∧Below w.heap.size w w':=by
 rcases id hs with⟨_,h00⟩|⟨ad,cap,rfl,hl,hc⟩
 ·omega
 have hA0:w.cell? ad=some (.int .u8 (bs 0)):=by simpa[Addr.add]using hc 0 (by omega)
 have hA1:∀o,(w.alloc o).cell? ad=some (.int .u8 (bs 0)):=fun o=>cell_alloc hA0
 have hB1:w.cell? ⟨ad.block,ad.off+1,none⟩=some (.int .u8 (bs 1)):=by simpa[Addr.add]using hc 1 (by omega)
 have hC1:∀o o',((w.alloc o).alloc o').cell? ⟨ad.block,ad.off+1,none⟩=some (.int .u8 (bs 1)):=fun o o'=>cell_alloc (cell_alloc hB1)
 have jx0:(0:Int)<(L:Int):=by omega
 have e0:((L:Int)==0)=false:=by simp;omega
 have e0':(L==0)=false:=by simp;omega
 have jx1:(1:Int)<(L:Int):=by omega
 rw[h1]at hA0 hA1
 have l2:decide ((L:Int)<2)=false:=by simp;omega
 have l2':decide (L<2)=false:=by simp;omega
 have r1:(bs 1==15)=false:=by simpa using n
 obtain⟨hbl0,_,hR0,_⟩:=ini0 w
 have HBL0:=Lib.hid hbl0
 have HR0:=Lib.hid hR0
 have HBL1:=Lib.hid (below_last (Below.refl _ w) (.cells zeroA 34))
 have HR1:=Lib.hid (there_alloc_new w zeroA 34 18 (by decide))
 clear hbl0 hR0
 clear hs _hb hc hl h1 n
 rcases hp with rfl|rfl
 all_goals
  go_enter Tryz.func10,Tryz.ntmps10
  go_wp2_with (refine store_ins rfl (.tmp 2) (.tmp 91) rfl w.heap.size rfl zeroI rfl HR0.out ?_;intro Y hY hl;have HY:=Lib.hid hY;have HL:=Lib.hid hl;clear hY hl)
  refine bodyPost_ret (results_cell_tmp rfl rfl rfl HL.out) rfl ⟨rfl,?_⟩
  rw[HY.out]
  exact below_setCells (Nat.le_refl _) _ _ _ HBL0.out
theorem rone_z6(v:Value)(L:Nat)(bs:Nat→Int)(_hb:∀i,0≤bs i∧bs i<256)(_hL:L≤1099511627776)(w:World)(hs:Slc .u8 w v L bs)(p:Int)(hp:p=242∨p=102)(h1:bs 0=p)(h2:bs 1=15)(hL2:L=2):
  Calls Tryz.prog 10 #[v] w fun e w'=>e=.returned (insR (zeroI,21))∧Below w.heap.size w w':=by
 rcases id hs with⟨_,h00⟩|⟨ad,cap,rfl,hl,hc⟩
 ·omega
 have hA0:w.cell? ad=some (.int .u8 (bs 0)):=by simpa[Addr.add]using hc 0 (by omega)
 have hA1:∀o,(w.alloc o).cell? ad=some (.int .u8 (bs 0)):=fun o=>cell_alloc hA0
 have hB1:w.cell? ⟨ad.block,ad.off+1,none⟩=some (.int .u8 (bs 1)):=by simpa[Addr.add]using hc 1 (by omega)
 have hC1:∀o o',((w.alloc o).alloc o').cell? ⟨ad.block,ad.off+1,none⟩=some (.int .u8 (bs 1)):=fun o o'=>cell_alloc (cell_alloc hB1)
 have jx0:(0:Int)<(L:Int):=by omega
 have e0:((L:Int)==0)=false:=by simp;omega
 have e0':(L==0)=false:=by simp;omega
 have jx1:(1:Int)<(L:Int):=by omega
 rw[h1]at hA0 hA1
 rw[h2]at hB1 hC1
 have l2:decide ((L:Int)<2)=false:=by simp;omega
 have l2':decide (L<2)=false:=by simp;omega
 have l3:decide ((L:Int)≤2)=true:=by simp;omega
 have l3':decide (L≤2)=true:=by simp;omega
 obtain⟨hbl0,_,hR0,_⟩:=ini0 w
 have HBL0:=Lib.hid hbl0
 have HR0:=Lib.hid hR0
 have HBL1:=Lib.hid (below_last (Below.refl _ w) (.cells zeroA 34))
 have HR1:=Lib.hid (there_alloc_new w zeroA 34 18 (by decide))
 clear hbl0 hR0
 clear hs _hb hc hl h1 h2
 rcases hp with rfl|rfl
 all_goals
  go_enter Tryz.func10,Tryz.ntmps10
  go_wp2_with (refine store_ins rfl (.tmp 2) (.tmp 96) rfl w.heap.size rfl zeroI rfl HR0.out ?_;intro Y hY hl;have HY:=Lib.hid hY;have HL:=Lib.hid hl;clear hY hl)
  refine bodyPost_ret (results_cell_tmp rfl rfl rfl HL.out) rfl ⟨rfl,?_⟩
  rw[HY.out]
  exact below_setCells (Nat.le_refl _) _ _ _ HBL0.out
end
section
open Go.ChangeShapes Go.WideShapes Go.ChangeAt Go.RowKit
set_option maxRecDepth 100000
theorem how1_all:((List.range 256).all fun c=>(List.range 9).all fun r=>howOk (firstF (c:Int) ((r:Int)-1) true).1.how&&howOk (firstF (c:Int) ((r:Int)-1) false).1.how)=true:=by kernel_rfl
theorem how2_all:((List.range 256).all fun c=>howOk (secondF 0 (c:Int)).1.how&&howOk (secondF 102 (c:Int)).1.how&&howOk (secondF 242 (c:Int)).1.how)=true:=by kernel_rfl
theorem how1_at(c r:Int)(m:Bool)(c0:0≤c)(c1:c<256)(r0:-1≤r)(r1:r<8):howOk (firstF c r m).1.how=true:=by
 obtain⟨n,rfl⟩:=Int.eq_ofNat_of_zero_le c0
 obtain⟨k,hk⟩:∃k:Nat,r=(k:Int)-1:=⟨(r+1).toNat,by omega⟩
 subst hk
 have h1:=List.all_eq_true.1 how1_all n (List.mem_range.2 (by omega))
 have h2:=List.all_eq_true.1 h1 k (List.mem_range.2 (by omega))
 simp only[Bool.and_eq_true]at h2
 cases m
 ·exact h2.2
 ·exact h2.1
theorem how2_at(c:Int)(c0:0≤c)(c1:c<256):howOk (secondF 0 c).1.how=true∧howOk (secondF 102 c).1.how=true∧howOk (secondF 242 c).1.how=true:=by
 obtain⟨n,rfl⟩:=Int.eq_ofNat_of_zero_le c0
 have h1:=List.all_eq_true.1 how2_all n (List.mem_range.2 (by omega))
 simp only[Bool.and_eq_true]at h1
 exact⟨h1.1.1,h1.1.2,h1.2⟩
theorem go_norm{L:Nat}{bs:Nat→Int}{g:Frm}{rep:Bool}{k:Nat}(h:hasF g.how=false):goF L bs g rep k=madeF (i0 g rep) g zeroO 0 L bs k:=by
 unfold goF;rw[h,if_neg (by decide)];rfl
theorem go_none{L:Nat}{bs:Nat→Int}{g:Frm}{rep:Bool}{k:Nat}(h:hasF g.how=true)(hr:rmF (L-k) (fun i=>bs (k+i))=none):goF L bs g rep k=(zeroI,21):=by
 unfold goF;rw[h,if_pos rfl,hr]
theorem go_some{L:Nat}{bs:Nat→Int}{g:Frm}{rep:Bool}{k:Nat}{o:Opd}{r:Int}{n:Nat}(h:hasF g.how=true)(hr:rmF (L-k) (fun i=>bs (k+i))=some (o,r,n)):goF L bs g rep k=madeF (i0 g rep) g o r L bs (k+n):=by
 unfold goF;rw[h,if_pos rfl,hr];rfl
theorem rone_c_any(v:Value)(L:Nat)(bs:Nat→Int)(hb:∀i,0≤bs i∧bs i<256)(hL:L≤1099511627776)(w:World)(hs:Slc .u8 w v L bs)(h0:L≠0)(h1:bs 0=15):
  Calls Tryz.prog 10 #[v] w fun e w'=>e=.returned (insR (oneF L bs))∧Below w.heap.size w w':=by
 rw[show oneF L bs=twoF L bs 0 1 by unfold oneF;rw[if_neg h0,if_neg (by omega),if_pos h1]]
 by_cases hl:L≤1
 ·rw[show twoF L bs 0 1=(zeroI,21)by unfold twoF;rw[if_pos hl]]
  exact rone_z3 v L bs hb hL w hs h1 (by omega)
 obtain⟨g,ok,hrow⟩:∃g ok,secondF 0 (bs 1)=(g,ok):=⟨_,_,rfl⟩
 have hh:howOk g.how=true:=by
  have:=(how2_at (bs 1) (hb 1).1 (hb 1).2).1
  rw[hrow]at this;exact this
 cases ok with
 |false=>
  rw[show twoF L bs 0 1=(zeroI,22)by unfold twoF;rw[if_neg hl,hrow];rfl]
  exact rone_c_bad v L bs hb hL w hs h1 (by omega) g hrow
 |true=>
 rw[show twoF L bs 0 1=goF L bs g false 2 by unfold twoF;rw[if_neg hl,hrow];rfl]
 cases hhas:hasF g.how with
 |false=>rw[go_norm hhas];exact rone_c_norm v L bs hb hL w hs h1 (by omega) g hrow hh hhas
 |true=>
  cases hrm:rmF (L-2) (fun i=>bs (2+i))with
  |none=>rw[go_none hhas hrm];exact rone_c_short v L bs hb hL w hs h1 (by omega) g hrow hh hhas hrm
  |some x=>
   obtain⟨o,r,n⟩:=x
   rw[go_some hhas hrm];exact rone_c_rm v L bs hb hL w hs h1 (by omega) g hrow hh hhas o r n hrm
theorem rone_d_any(v:Value)(L:Nat)(bs:Nat→Int)(hb:∀i,0≤bs i∧bs i<256)(hL:L≤1099511627776)(w:World)(hs:Slc .u8 w v L bs)(h0:L≠0)(p:Int)(hp:p=242∨p=102)(h1:bs 0=p):
  Calls Tryz.prog 10 #[v] w fun e w'=>e=.returned (insR (oneF L bs))∧Below w.heap.size w w':=by
 by_cases hl2:L<2
 ·rw[show oneF L bs=(zeroI,21)by unfold oneF;rw[if_neg h0,if_neg (by omega),if_neg (by omega),if_pos (by omega),if_pos hl2]]
  exact rone_z4 v L bs hb hL w hs p hp h1 (by omega)
 by_cases h2:bs 1=15
 ·rw[show oneF L bs=twoF L bs p 2 by unfold oneF;rw[if_neg h0,if_neg (by omega),if_neg (by omega),if_pos (by omega),if_neg hl2,if_pos h2,h1]]
  by_cases hl:L≤2
  ·rw[show twoF L bs p 2=(zeroI,21)by unfold twoF;rw[if_pos hl]]
   exact rone_z6 v L bs hb hL w hs p hp h1 h2 (by omega)
  obtain⟨g,ok,hrow⟩:∃g ok,secondF p (bs 2)=(g,ok):=⟨_,_,rfl⟩
  have hh:howOk g.how=true:=by
   have hw:=how2_at (bs 2) (hb 2).1 (hb 2).2
   rcases hp with rfl|rfl
   ·have:=hw.2.2;rw[hrow]at this;exact this
   ·have:=hw.2.1;rw[hrow]at this;exact this
  cases ok with
  |false=>
   rw[show twoF L bs p 2=(zeroI,22)by unfold twoF;rw[if_neg hl,hrow];rfl]
   exact rone_d_bad v L bs hb hL w hs p hp h1 h2 (by omega) g hrow
  |true=>
  rw[show twoF L bs p 2=goF L bs g false 3 by unfold twoF;rw[if_neg hl,hrow];rfl]
  cases hhas:hasF g.how with
  |false=>rw[go_norm hhas];exact rone_d_norm v L bs hb hL w hs p hp h1 h2 (by omega) g hrow hh hhas
  |true=>
   cases hrm:rmF (L-3) (fun i=>bs (3+i))with
   |none=>rw[go_none hhas hrm];exact rone_d_short v L bs hb hL w hs p hp h1 h2 (by omega) g hrow hh hhas hrm
   |some x=>
    obtain⟨o,r,n⟩:=x
    rw[go_some hhas hrm];exact rone_d_rm v L bs hb hL w hs p hp h1 h2 (by omega) g hrow hh hhas o r n hrm
 ·rw[show oneF L bs=(zeroI,22)by unfold oneF;rw[if_neg h0,if_neg (by omega),if_neg (by omega),if_pos (by omega),if_neg hl2,if_neg h2]]
  exact rone_z5 v L bs hb hL w hs p hp h1 (by omega) h2
theorem rone_b_any(v:Value)(L:Nat)(bs:Nat→Int)(hb:∀i,0≤bs i∧bs i<256)(hL:L≤1099511627776)(w:World)(hs:Slc .u8 w v L bs)(h0:L≠0)(h1:bs 0=243):
  Calls Tryz.prog 10 #[v] w fun e w'=>e=.returned (insR (oneF L bs))∧Below w.heap.size w w':=by
 by_cases hl2:L<2
 ·rw[show oneF L bs=(zeroI,21)by unfold oneF;rw[if_neg h0,if_pos h1,if_pos hl2]]
  exact rone_z1 v L bs hb hL w hs h1 (by omega)
 by_cases h4:bs 1=164∨bs 1=165∨bs 1=170∨bs 1=171
 ·rw[show oneF L bs=goF L bs (firstF (bs 1) (-1) false).1 true 2 by unfold oneF;rw[if_neg h0,if_pos h1,if_neg hl2,if_pos h4]]
  have hfacts:∀z:Int,(z=164∨z=165∨z=170∨z=171)→hasF (firstF z (-1) false).1.how=false∧howOk (firstF z (-1) false).1.how=true:=fun z hz=>by rcases hz with rfl|rfl|rfl|rfl<;>exact⟨by decide,by decide⟩
  obtain⟨f1,f2⟩:=hfacts _ h4
  rw[go_norm f1]
  exact rone_b_norm v L bs hb hL w hs h1 (by omega) (bs 1) h4 rfl (firstF (bs 1) (-1) false).1 _ _ rfl f2 f1
 ·rw[show oneF L bs=(zeroI,22)by unfold oneF;rw[if_neg h0,if_pos h1,if_neg hl2,if_neg h4]]
  exact rone_z2 v L bs hb hL w hs h1 (by omega) (fun h=>h4 (.inl h)) (fun h=>h4 (.inr (.inl h))) (fun h=>h4 (.inr (.inr (.inl h)))) (fun h=>h4 (.inr (.inr (.inr h))))
theorem rone_e_any(v:Value)(L:Nat)(bs:Nat→Int)(hb:∀i,0≤bs i∧bs i<256)(hL:L≤1099511627776)(w:World)(hs:Slc .u8 w v L bs)(h0:L≠0)(n0:bs 0≠243)(n1:bs 0≠15)(n2:bs 0≠242)(n3:bs 0≠102):
  Calls Tryz.prog 10 #[v] w fun e w'=>e=.returned (insR (oneF L bs))∧Below w.heap.size w w':=by
 obtain⟨g,ok,wait,hrow⟩:∃g ok wait,firstF (bs 0) (behF L bs 1) (behM L bs 1)=(g,ok,wait):=⟨_,_,_,rfl⟩
 have hh:howOk g.how=true:=by
  have hbd:=behF_bd L bs 1
  have:=how1_at (bs 0) (behF L bs 1) (behM L bs 1) (hb 0).1 (hb 0).2 hbd.1 hbd.2
  rw[hrow]at this;exact this
 have e:oneF L bs=if wait then(zeroI,21)else if ok then goF L bs g false 1 else(zeroI,22):=by
  unfold oneF;rw[if_neg h0,if_neg n0,if_neg n1,if_neg (by omega),hrow]
 rw[e]
 cases wait with
 |true=>exact rone_e_wait v L bs hb hL w hs n0 n1 n2 n3 (by omega) g ok hrow
 |false=>
 cases ok with
 |false=>exact rone_e_bad v L bs hb hL w hs n0 n1 n2 n3 (by omega) g hrow
 |true=>
 rw[if_neg (by decide),if_pos rfl]
 cases hhas:hasF g.how with
 |false=>rw[go_norm hhas];exact rone_e_norm v L bs hb hL w hs n0 n1 n2 n3 (by omega) g hrow hh hhas
 |true=>
  cases hrm:rmF (L-1) (fun i=>bs (1+i))with
  |none=>rw[go_none hhas hrm];exact rone_e_short v L bs hb hL w hs n0 n1 n2 n3 (by omega) g hrow hh hhas hrm
  |some x=>
   obtain⟨o,r,n⟩:=x
   rw[go_some hhas hrm];exact rone_e_rm v L bs hb hL w hs n0 n1 n2 n3 (by omega) g hrow hh hhas o r n hrm
theorem rone_any(v:Value)(L:Nat)(bs:Nat→Int)(hb:∀i,0≤bs i∧bs i<256)(hL:L≤1099511627776)(w:World)(hs:Slc .u8 w v L bs):
  Calls Tryz.prog 10 #[v] w fun e w'=>e=.returned (insR (oneF L bs))∧Below w.heap.size w w':=by
 by_cases h0:L=0
 ·subst h0
  rw[show oneF 0 bs=(zeroI,21)by unfold oneF;rw[if_pos rfl]]
  exact rone_z0 v bs w hs
 by_cases a:bs 0=243
 ·exact rone_b_any v L bs hb hL w hs h0 a
 by_cases b:bs 0=15
 ·exact rone_c_any v L bs hb hL w hs h0 b
 by_cases c:bs 0=242
 ·exact rone_d_any v L bs hb hL w hs h0 242 (.inl rfl) c
 by_cases d:bs 0=102
 ·exact rone_d_any v L bs hb hL w hs h0 102 (.inr rfl) d
 exact rone_e_any v L bs hb hL w hs h0 a b c d
end
section
set_option maxRecDepth 100000
theorem one15_any:OneC 10:=fun v L bs hb hL w hs=>rone_any v L bs hb hL w hs
end
section
open Go.ChangeShapes Go.WideShapes Go.ChangeAt Go.RowKit
section
variable {H:Type} {enc:TypeId×Value→H} {w:World} {base:Nat} {spare:Nat→Bool} {held:Bool}
set_option maxRecDepth 10000
theorem open_rowu32{r:Reach}{b0:Nat}{v:Value}{x:DataW H}{ps:List MemPlace}(hv:Value.okWide Tryz.prog w r b0 23 v)(h:DataW.Trod enc Tryz.prog w base spare held 23 v x ps):
  ∃f:Nat→Int,v=.agg (rowL_u32 f).toArray∧x=arrD H .u32 f∧ps=[]∧∀i,i<8→(.int .u32 (f i):Lit).wf=true:=by
 obtain⟨cs,rfl,hsz⟩:∃cs,v=.agg cs∧cs.size=Tryz.prog.cellsOf 23:=by
  simp only[Value.okWide,Tryz.underlying23]at hv
  obtain⟨cs,h1,h2,_⟩:=hv
  exact⟨cs,h1,h2⟩
 obtain⟨fuel,hf⟩:=h
 obtain⟨l⟩:=cs
 match l,hsz.trans cell_a4 with
 |[c0,c1,c2,c3,c4,c5,c6,c7],_=>
  obtain⟨f,⟨rfl,rfl,rfl,rfl,rfl,rfl,rfl,rfl⟩,hx,hw⟩:=open_arru32 hf
  injection hx with h1 h2
  exact⟨f,rfl,h1,h2,hw⟩
theorem shut_rowu32(f:Nat→Int)(h:∀i,i<8→(.int .u32 (f i):Lit).wf=true):DataW.Trod enc Tryz.prog w base spare held 23 (.agg (rowL_u32 f).toArray) (arrD H .u32 f) []:=by
 have r0:=h 0 (by decide)
 have r1:=h 1 (by decide)
 have r2:=h 2 (by decide)
 have r3:=h 3 (by decide)
 have r4:=h 4 (by decide)
 have r5:=h 5 (by decide)
 have r6:=h 6 (by decide)
 have r7:=h 7 (by decide)
 exact⟨3,by simp[arrD,rowL_u32,DataW.trod,Value.cells,List.range,List.range.loop,Tryz.underlying23,Tryz.underlying22,cell_u4,cell_a4,r0,r1,r2,r3,r4,r5,r6,r7]⟩
end
set_option maxRecDepth 100000
theorem row_u32_ok{f:Nat→Int}(h:∀i,i<8→(.int .u32 (f i):Lit).wf=true):∀i,i<8→0≤f i∧f i<4294967296:=fun i hi=>by
 have:=bounds_u32 (h i hi)
 omega
end
end Go.Proofs.YtmdncgfheeijaaaGreat
