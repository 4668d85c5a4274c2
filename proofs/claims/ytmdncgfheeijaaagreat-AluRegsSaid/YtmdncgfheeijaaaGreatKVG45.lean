import Derived.Deep.DeepCutAuto
import Derived.KernelRfl
import Derived.Test.YtmdncgfheeijaaaGreatKVG25
import Derived.Test.YtmdncgfheeijaaaGreatKVG39
import Derived.Test.YtmdncgfheeijaaaGreatKVG43
import Derived.Test.YtmdncgfheeijaaaGreatKVG44
namespace Go.Proofs.YtmdncgfheeijaaaGreat
section
open Go.ChangeShapes Go.WideShapes Go.ChangeAt Go.RowKit
set_option maxRecDepth 100000
def frmL(g:Frm):List Value:=[.int .i64 g.op,.int .i64 g.cond,.int .i64 g.size,.string ⟨g.how.toArray⟩,.int .i64 g.c]
theorem info_frm:(Tryz.prog.info? 63).map (·.size)=some 5:=by kernel_rfl
theorem frm_one(g:Frm):(frmL g).toArray.all (·.oneCell')=true:=by simp[frmL,Value.oneCell']
structure FInv (w:World) (g:Frm) (u:World):Prop where
 below:Below w.heap.size w u
 frm:u.rangeAt (w.heap.size+1) 0 (frmL g)
 res:u.there w.heap.size 0 18
theorem FInv.lt{w:World}{g:Frm}{u:World}(h:FInv w g u):w.heap.size+1<u.heap.size:=cell_lt (h.frm 0 _ rfl)
theorem FInv.ext{w:World}{g:Frm}{u u':World}(h:FInv w g u)(hb:Below u.heap.size u u'):FInv w g u':=
 ⟨h.below.trans (hb.mono h.below.size),range_but (F:=fun _=>False) (But.of_below hb) (fun h=>h) h.frm,there_but (F:=fun _=>False) (But.of_below hb) (fun h=>h) (by have:=h.lt;omega) h.res⟩
theorem FInv.drawn{w:World}{g:Frm}{u:World}(h:FInv w g u):FInv w g { u with drawn:=u.drawn+1 }:=⟨h.below.drew,h.frm,h.res⟩
theorem FInv.put{w:World}{g:Frm}{u:World}(h:FInv w g u)(k o:Nat)(hk:w.heap.size+1<k)(vs:List Value):FInv w g (u.setCells k o vs):=
 ⟨below_setCells (by omega) _ _ _ h.below,World.rangeAt_setCells_apart h.frm k o vs (.inl (by omega)),World.there_setCells h.res _ _ _⟩
theorem frm_cells{w:World}{g:Frm}{u:World}(h:FInv w g u):u.cell? ⟨w.heap.size+1,0,none⟩=some (.int .i64 g.op)∧u.cell? ⟨w.heap.size+1,1,none⟩=some (.int .i64 g.cond)∧u.cell? ⟨w.heap.size+1,2,none⟩=some (.int .i64 g.size)∧u.cell? ⟨w.heap.size+1,3,none⟩=some (.string ⟨g.how.toArray⟩):=
 ⟨h.frm 0 _ rfl,h.frm 1 _ rfl,h.frm 2 _ rfl,h.frm 3 _ rfl⟩
def SG(C:List Value)(u u':World):Prop:=u.heap.size≤u'.heap.size∧(∀k n,u.there k 0 n→u'.there k 0 n)∧(∀k,u.rangeAt k 0 C→0<C.length→u'.rangeAt k 0 C)
theorem sg_refl{C:List Value}(u:World):SG C u u:=⟨Nat.le_refl _,fun _ _ h=>h,fun _ h _=>h⟩
theorem there_lt'{u:World}{k n:Nat}(h:u.there k 0 n)(hn:0<n):k<u.heap.size:=by
 obtain⟨x,hx⟩:=Option.isSome_iff_exists.1 (h 0 hn).1
 exact cell_lt hx
theorem sg_below{C:List Value}{u u':World}(hb:Below u.heap.size u u'):SG C u u':=
 ⟨hb.size,fun k n h=>by
  by_cases hn:0<n
  ·exact there_but (F:=fun _=>False) (But.of_below hb) (fun h=>h) (there_lt' h hn) h
  ·exact fun j hj=>by omega,fun k h _=>range_but (F:=fun _=>False) (But.of_below hb) (fun h=>h) h⟩
theorem sg_put{C:List Value}{u:World}{k:Nat}(ht:u.there k 0 C.length):SG C u (u.setCells k 0 C):=by
 refine⟨by rw[setCells_size];exact Nat.le_refl _,fun k' n h=>World.there_setCells h _ _ _,fun k' h _=>?_⟩
 by_cases hk:k'=k
 ·subst hk;exact World.rangeAt_setCells_same u k' 0 C ht
 ·exact World.rangeAt_setCells_apart h k 0 C (.inl hk)
structure BI (w u:World):Prop where
 below:Below w.heap.size w u
 res:u.there w.heap.size 0 18
 frm:u.there (w.heap.size+1) 0 5
 size:w.heap.size+1<u.heap.size
theorem BI.ext{w u u':World}(h:BI w u)(hb:Below u.heap.size u u'):BI w u':=
 ⟨h.below.trans (hb.mono h.below.size),there_but (F:=fun _=>False) (But.of_below hb) (fun h=>h) (by have:=h.size;omega) h.res,there_but (F:=fun _=>False) (But.of_below hb) (fun h=>h) h.size h.frm,Nat.lt_of_lt_of_le h.size hb.size⟩
theorem BI.start(w:World):BI w ((w.alloc (.cells zeroA 34)).alloc (.cells #[.int .i64 0,.int .i64 0,.int .i64 0,.string ⟨#[]⟩,.int .i64 0] 63)):=
 ⟨below_last (below_last (Below.refl _ w) _) _,there_alloc _ (by simp) (there_alloc_new w _ _ _ (by decide)),by have:=there_alloc_new (w.alloc (.cells zeroA 34)) #[.int .i64 0,.int .i64 0,.int .i64 0,.string ⟨#[]⟩,.int .i64 0] 63 5 (by decide);simpa using this,by simp⟩
theorem BI.dr{w u:World}(h:BI w u)(n:Nat):BI w (u.drewN n):=⟨below_drN h.below n,h.res,h.frm,h.size⟩
theorem BI.put{w u Z:World}(h:BI w u)(g:Frm)(hZ:Z=u.setCells (w.heap.size+1) 0 (frmL g)):FInv w g Z:=by
 rw[hZ];exact⟨below_setCells (by omega) _ _ _ h.below,World.rangeAt_setCells_same _ _ _ _ h.frm,World.there_setCells h.res _ _ _⟩
def i0(g:Frm)(rep:Bool):Ins:=⟨g.op,g.cond,g.size,noneO,noneO,0,rep,0⟩
def SV(w:World)(g:Frm)(rep:Bool):Nat→Value→Value→World→Prop
 |0,v,_,_=>v=.pointer (some ⟨w.heap.size+1,0,none⟩)
 |1,v,_,_=>v=.int .i64 g.op
 |2,v,_,_=>v=.pointer (some ⟨w.heap.size+1,1,none⟩)
 |3,v,_,_=>v=.int .i64 g.cond
 |4,v,_,_=>v=.pointer (some ⟨w.heap.size+1,2,none⟩)
 |5,v,_,_=>v=.int .i64 g.size
 |6,v,_,_=>v=opV noneO
 |7,v,_,_=>v=opV noneO
 |8,v,_,_=>v=.bool rep
 |9,v,_,_=>v=.agg (insL (i0 g rep)).toArray
 |10,v,_,u=>∃k,v=.pointer (some ⟨k,0,none⟩)∧w.heap.size+1<k∧u.there k 0 18
 |11,_,x,u=>∃k,x=.pointer (some ⟨k,0,none⟩)∧w.heap.size+1<k∧u.rangeAt k 0 (insL (i0 g rep))
 |_,_,_,_=>True
theorem sv_stays{w:World}{g:Frm}{rep:Bool}(i:Nat)(v x:Value)(u:World)(_:Unit)(u':World)(_:Unit)(h:SV w g rep i v x u)(hg:SG (insL (i0 g rep)) u u'):SV w g rep i v x u':=by
 unfold SV at h ⊢
 split at h
 all_goals first
  |exact h
  |(obtain⟨k,h1,h2,h3⟩:=h;exact⟨k,h1,h2,hg.2.1 k 18 h3⟩)
  |(obtain⟨k,h1,h2,h3⟩:=h;exact⟨k,h1,h2,hg.2.2 k h3 (show 0<18 by decide)⟩)
theorem store_frm{ops:Array Oper}{rest:List Oper}{op:Oper}{a:Act}{w:World}{Q:Exit→Act→World→Prop}(hgd:op.guard=none)(x y:Operand)(ho:op.op=.store 63 x y)
  (R:Nat) (hx:a.eval x=.pointer (some ⟨R,0,none⟩)) (q:Frm) (hy:a.eval y=frmV q) (ht:w.there R 0 5)
  (hK:∀Y,Y=w.setCells R 0 (frmL q)→wpList Tryz.prog ops Q rest (a.put op.dst undef) Y):wpList Tryz.prog ops Q (op :: rest) a w:=
 store_mid hgd _ x y ho R 0 hx (frmL q) hy info_frm (frm_one q) ht hK
theorem behF_bd(L:Nat)(bs:Nat→Int)(k:Nat):-1≤behF L bs k∧behF L bs k<8:=by unfold behF;split<;>omega
theorem how1_all:((List.range 256).all fun c=>(List.range 9).all fun r=>howOk (firstF (c:Int) ((r:Int)-1) true).1.how&&howOk (firstF (c:Int) ((r:Int)-1) false).1.how)=true:=by kernel_rfl
theorem how2_all:((List.range 256).all fun c=>howOk (secondF 0 (c:Int)).1.how&&howOk (secondF 102 (c:Int)).1.how&&howOk (secondF 242 (c:Int)).1.how)=true:=by kernel_rfl
theorem how1_at(c r:Int)(m:Bool)(c0:0≤c)(c1:c<256)(r0:-1≤r)(r1:r<8):howOk (firstF c r m).1.how=true:=by
 obtain⟨n,rfl⟩:=Int.eq_ofNat_of_zero_le c0
 obtain⟨k,hk⟩:∃k:Nat,r=(k:Int)-1:=⟨(r+1).toNat,by omega⟩
 subst hk
 have h1:=List.all_eq_true.1 how1_all n (List.mem_range.2 (by omega))
 have h2:=List.all_eq_true.1 h1 k (List.mem_range.2 (by omega))
 simp only[Bool.and_eq_true]at h2
 cases m
 ·exact h2.2
 ·exact h2.1
theorem how2_at(c:Int)(c0:0≤c)(c1:c<256):howOk (secondF 0 c).1.how=true∧howOk (secondF 102 c).1.how=true∧howOk (secondF 242 c).1.how=true:=by
 obtain⟨n,rfl⟩:=Int.eq_ofNat_of_zero_le c0
 have h1:=List.all_eq_true.1 how2_all n (List.mem_range.2 (by omega))
 simp only[Bool.and_eq_true]at h1
 exact⟨h1.1.1,h1.1.2,h1.2⟩
theorem how2_p(p c:Int)(hp:p=0∨p=242∨p=102)(c0:0≤c)(c1:c<256):howOk (secondF p c).1.how=true:=by
 obtain⟨h1,h2,h3⟩:=how2_at c c0 c1
 rcases hp with rfl|rfl|rfl<;>assumption
theorem go_norm{L:Nat}{bs:Nat→Int}{g:Frm}{rep:Bool}{k:Nat}(h:hasF g.how=false):goF L bs g rep k=madeF (i0 g rep) g zeroO 0 L bs k:=by
 unfold goF;rw[h,if_neg (by decide)];rfl
theorem go_none{L:Nat}{bs:Nat→Int}{g:Frm}{rep:Bool}{k:Nat}(h:hasF g.how=true)(hr:rmF (L-k) (fun i=>bs (k+i))=none):goF L bs g rep k=(zeroI,21):=by
 unfold goF;rw[h,if_pos rfl,hr]
theorem go_some{L:Nat}{bs:Nat→Int}{g:Frm}{rep:Bool}{k:Nat}{o:Opd}{r:Int}{n:Nat}(h:hasF g.how=true)(hr:rmF (L-k) (fun i=>bs (k+i))=some (o,r,n)):goF L bs g rep k=madeF (i0 g rep) g o r L bs (k+n):=by
 unfold goF;rw[h,if_pos rfl,hr];rfl
set_option maxHeartbeats 4000000
theorem rone_z0(v:Value)(bs:Nat→Int)(w:World)(hs:Slc .u8 w v 0 bs):
  Calls Tryz.prog 10 #[v] w fun e w'=>e=.returned (insR (zeroI,21))∧Below w.heap.size w w':=by
 have hv:(∃cap,v=.slice none 0 cap)∨∃ad cap,v=.slice (some ad) 0 cap:=by
  rcases hs with⟨rfl,_⟩|⟨ad,cap,rfl,_⟩
  ·exact .inl ⟨0,rfl⟩
  ·exact .inr ⟨ad,cap,rfl⟩
 clear hs
 have HBL1:=Lib.hid (below_last (Below.refl _ w) (.cells zeroA 34))
 have HR1:=Lib.hid (there_alloc_new w zeroA 34 18 (by decide))
 rcases hv with⟨cap,rfl⟩|⟨ad,cap,rfl⟩
 all_goals
  go_enter Tryz.func10,Tryz.ntmps10
  go_wp2_with (refine store_ins rfl (.tmp 2) (.tmp 21) rfl w.heap.size rfl zeroI rfl HR1.out ?_;intro Y hY hl;have HY:=Lib.hid hY;have HL:=Lib.hid hl;clear hY hl)
  refine bodyPost_ret (results_cell_tmp rfl rfl rfl HL.out) rfl ⟨rfl,?_⟩
  rw[HY.out]
  exact below_setCells (Nat.le_refl _) _ _ _ HBL1.out
set_option maxHeartbeats 40000000
theorem rone_any(v:Value)(L:Nat)(bs:Nat→Int)(hb:∀i,0≤bs i∧bs i<256)(hL:L≤1099511627776)(w:World)(hs:Slc .u8 w v L bs):
  Calls Tryz.prog 10 #[v] w fun e w'=>e=.returned (insR (oneF L bs))∧Below w.heap.size w w':=by
 by_cases h0:L=0
 ·subst h0
  rw[show oneF 0 bs=(zeroI,21)by unfold oneF;rw[if_pos rfl]]
  exact rone_z0 v bs w hs
 rcases id hs with⟨_,h00⟩|⟨ad,cap,rfl,hl,hc⟩
 ·omega
 have hA0:w.cell? ad=some (.int .u8 (bs 0)):=by simpa[Addr.add]using hc 0 (by omega)
 have hA1:∀o,(w.alloc o).cell? ad=some (.int .u8 (bs 0)):=fun o=>cell_alloc hA0
 have jx0:(0:Int)<(L:Int):=by omega
 have e0:((L:Int)==0)=false:=by simp;omega
 have e0':(L==0)=false:=by simp;omega
 have HSL:=Lib.hid (fun W (hW:Below w.heap.size w W)=>hs.below hW)
 have HC:=Lib.hid hc
 have HLC:=Lib.hid hl
 have HBS:=Lib.hid hb
 have HB:=Lib.hid (BI.start w)
 have HN0:=Lib.hid h0
 clear hs hb hc hl h0
 go_enter Tryz.func10,Tryz.ntmps10
 go_upto_block 0 with fail
 go_cut [4,8] (fun s4 s8 wx=>∃(g:Frm) (rep:Bool) (k:Nat),s4=.int .i64 (k:Int)∧s8=.bool rep∧k≤L∧howOk g.how=true∧oneF L bs=goF L bs g rep k∧FInv w g wx)
 case first=>
  rcases(show bs 0=243∨bs 0=15∨bs 0=242∨bs 0=102∨(bs 0≠243∧bs 0≠15∧bs 0≠242∧bs 0≠102)by omega)with h1|h1|h1|h1|⟨n0,n1,n2,n3⟩
  have q1:(bs 0==243)=true:=by simp[h1]
  by_cases hl2:L<2
  have HO:=Lib.hid (show oneF L bs=(zeroI,21)by unfold oneF;rw[if_neg HN0.out,if_pos h1,if_pos hl2])
  have l2:decide ((L:Int)<2)=true:=by simp;omega
  have l2':decide (L<2)=true:=by simp;omega
  clear h1 hl2
  rotate_left
  have l2:decide ((L:Int)<2)=false:=by simp;omega
  have l2':decide (L<2)=false:=by simp;omega
  have jx1:(1:Int)<(L:Int):=by omega
  have hB1:w.cell? ⟨ad.block,ad.off+1,none⟩=some (.int .u8 (bs 1)):=by simpa[Addr.add]using HC.out 1 (by omega)
  have hC1:∀o o',((w.alloc o).alloc o').cell? ⟨ad.block,ad.off+1,none⟩=some (.int .u8 (bs 1)):=fun o o'=>cell_alloc (cell_alloc hB1)
  by_cases h4:bs 1=164∨bs 1=165∨bs 1=170∨bs 1=171
  have hO:oneF L bs=goF L bs (firstF (bs 1) (-1) false).1 true 2:=by unfold oneF;rw[if_neg HN0.out,if_pos h1,if_neg hl2,if_pos h4]
  have hh:=how1_at (bs 1) (-1) false (HBS.out 1).1 (HBS.out 1).2 (by decide) (by decide)
  have HFI:=fun W=>first_any (bs 1) (-1) false (HBS.out 1).1 (HBS.out 1).2 (by decide) (by decide) W
  obtain⟨g,ok,wait,hrow⟩:∃g ok wait,firstF (bs 1) (-1) false=(g,ok,wait):=⟨_,_,_,rfl⟩
  rw[hrow]at hO hh HFI
  have HFI:Hid (∀W,Calls Tryz.prog 20 #[.int .u8 (bs 1),.int .i64 (-1),.bool false] W fun e w'=>e=.returned (.tuple #[frmV g,.bool ok,.bool wait])∧Below W.heap.size W w'):=HFI
  have HO:=Lib.hid hO
  have HHO:=Lib.hid hh
  clear hO hh hrow h1 hl2
  rcases h4 with h4|h4|h4|h4
  iterate 4
   rw[h4]at hB1 hC1 HFI
   clear h4
   rotate_left
  have HO:=Lib.hid (show oneF L bs=(zeroI,22)by unfold oneF;rw[if_neg HN0.out,if_pos h1,if_neg hl2,if_neg h4])
  have q164:(bs 1 != 164)=true:=by simp;omega
  have q165:(bs 1 != 165)=true:=by simp;omega
  have q170:(bs 1 != 170)=true:=by simp;omega
  have q171:(bs 1 != 171)=true:=by simp;omega
  clear h1 hl2 h4
  rotate_left
  have ht:oneF L bs=twoF L bs 0 1:=by unfold oneF;rw[if_neg HN0.out,if_neg (by omega),if_pos h1]
  have q1:(bs 0==243)=false:=by simp[h1]
  have q2:(bs 0==15)=true:=by simp[h1]
  have q5:(bs 0 != 15)=false:=by simp[h1]
  clear h1
  by_cases hl:L≤1
  have HO:=Lib.hid (ht.trans (by unfold twoF;rw[if_pos hl]))
  have l2:decide ((L:Int)≤1)=true:=by simp;omega
  have l2':decide (L≤1)=true:=by simp;omega
  clear hl ht
  rotate_left
  have l2:decide ((L:Int)≤1)=false:=by simp;omega
  have l2':decide (L≤1)=false:=by simp;omega
  have jx1:(1:Int)<(L:Int):=by omega
  have hB1:w.cell? ⟨ad.block,ad.off+1,none⟩=some (.int .u8 (bs 1)):=by simpa[Addr.add]using HC.out 1 (by omega)
  have hC1:∀o o',((w.alloc o).alloc o').cell? ⟨ad.block,ad.off+1,none⟩=some (.int .u8 (bs 1)):=fun o o'=>cell_alloc (cell_alloc hB1)
  obtain⟨g,ok,hrow⟩:∃g ok,secondF 0 (bs 1)=(g,ok):=⟨_,_,rfl⟩
  have hh:=how2_p 0 (bs 1) (.inl rfl) (HBS.out 1).1 (HBS.out 1).2
  have HFI:=fun W=>second_any 0 (bs 1) (.inl rfl) (HBS.out 1).1 (HBS.out 1).2 W
  unfold twoF at ht
  rw[if_neg hl,hrow]at ht
  rw[hrow]at hh HFI
  have HFI:Hid (∀W,Calls Tryz.prog 21 #[.int .u8 0,.int .u8 (bs 1)] W fun e w'=>e=.returned (.tuple #[frmV g,.bool ok])∧Below W.heap.size W w'):=HFI
  have HHO:=Lib.hid hh
  clear hh hrow hl
  cases ok
  iterate 2
   simp only[Bool.false_eq_true,reduceIte]at ht
   have HO:=Lib.hid ht
   clear ht
   rotate_left
  iterate 2
   have q1:(bs 0==243)=false:=by simp[h1]
   have q2:(bs 0==15)=false:=by simp[h1]
   have q5:(bs 0 != 15)=true:=by simp[h1]
   first
    |have q3:(bs 0==242)=true:=by simp[h1]
    |(have q3:(bs 0==242)=false:=(by simp[h1]);have q4:(bs 0==102)=true:=by simp[h1])
   by_cases hl2:L<2
   have HO:=Lib.hid (show oneF L bs=(zeroI,21)by unfold oneF;rw[if_neg HN0.out,if_neg (by omega),if_neg (by omega),if_pos (by omega),if_pos hl2])
   have l2:decide ((L:Int)<2)=true:=by simp;omega
   have l2':decide (L<2)=true:=by simp;omega
   clear h1 hl2
   rotate_left
   have l2:decide ((L:Int)<2)=false:=by simp;omega
   have l2':decide (L<2)=false:=by simp;omega
   have jx1:(1:Int)<(L:Int):=by omega
   have hB1:w.cell? ⟨ad.block,ad.off+1,none⟩=some (.int .u8 (bs 1)):=by simpa[Addr.add]using HC.out 1 (by omega)
   have hC1:∀o o',((w.alloc o).alloc o').cell? ⟨ad.block,ad.off+1,none⟩=some (.int .u8 (bs 1)):=fun o o'=>cell_alloc (cell_alloc hB1)
   by_cases h2:bs 1≠15
   have HO:=Lib.hid (show oneF L bs=(zeroI,22)by unfold oneF;rw[if_neg HN0.out,if_neg (by omega),if_neg (by omega),if_pos (by omega),if_neg hl2,if_neg h2])
   have q15:(bs 1 != 15)=true:=by simpa using h2
   clear h1 hl2 h2
   rotate_left
   have h2:bs 1=15:=by omega
   have ht:oneF L bs=twoF L bs (bs 0) 2:=by unfold oneF;rw[if_neg HN0.out,if_neg (by omega),if_neg (by omega),if_pos (by omega),if_neg hl2,if_pos h2]
   rw[h2]at hB1 hC1
   clear hl2 h2
   by_cases hl:L≤2
   have HO:=Lib.hid (ht.trans (by unfold twoF;rw[if_pos hl]))
   have l3:decide ((L:Int)≤2)=true:=by simp;omega
   have l3':decide (L≤2)=true:=by simp;omega
   clear hl ht h1
   rotate_left
   have l3:decide ((L:Int)≤2)=false:=by simp;omega
   have l3':decide (L≤2)=false:=by simp;omega
   have jx2:(2:Int)<(L:Int):=by omega
   have hB2:w.cell? ⟨ad.block,ad.off+2,none⟩=some (.int .u8 (bs 2)):=by simpa[Addr.add]using HC.out 2 (by omega)
   have hC2:∀o o',((w.alloc o).alloc o').cell? ⟨ad.block,ad.off+2,none⟩=some (.int .u8 (bs 2)):=fun o o'=>cell_alloc (cell_alloc hB2)
   obtain⟨g,ok,hrow⟩:∃g ok,secondF (bs 0) (bs 2)=(g,ok):=⟨_,_,rfl⟩
   have hh:=how2_p (bs 0) (bs 2) (by omega) (HBS.out 2).1 (HBS.out 2).2
   have HFI:=fun W=>second_any (bs 0) (bs 2) (by omega) (HBS.out 2).1 (HBS.out 2).2 W
   unfold twoF at ht
   rw[if_neg hl,hrow]at ht
   rw[hrow]at hh HFI
   have HFI:Hid (∀W,Calls Tryz.prog 21 #[.int .u8 (bs 0),.int .u8 (bs 2)] W fun e w'=>e=.returned (.tuple #[frmV g,.bool ok])∧Below W.heap.size W w'):=HFI
   have HHO:=Lib.hid hh
   clear hh hrow hl h1
   cases ok
   iterate 2
    simp only[Bool.false_eq_true,reduceIte]at ht
    have HO:=Lib.hid ht
    clear ht
    rotate_left
  have hbd:=behF_bd L bs 1
  obtain⟨g,ok,wait,hrow⟩:∃g ok wait,firstF (bs 0) (behF L bs 1) (behM L bs 1)=(g,ok,wait):=⟨_,_,_,rfl⟩
  have hh:=how1_at (bs 0) (behF L bs 1) (behM L bs 1) (HBS.out 0).1 (HBS.out 0).2 hbd.1 hbd.2
  have HFI:=fun W=>first_any (bs 0) (behF L bs 1) (behM L bs 1) (HBS.out 0).1 (HBS.out 0).2 hbd.1 hbd.2 W
  have ht:oneF L bs=if wait=true then(zeroI,21)else if ok=true then goF L bs g false 1 else(zeroI,22):=by unfold oneF;rw[if_neg HN0.out,if_neg n0,if_neg n1,if_neg (by omega),hrow]
  rw[hrow]at hh HFI
  have HFI:Hid (∀W,Calls Tryz.prog 20 #[.int .u8 (bs 0),.int .i64 (behF L bs 1),.bool (behM L bs 1)] W fun e w'=>e=.returned (.tuple #[frmV g,.bool ok,.bool wait])∧Below W.heap.size W w'):=HFI
  have HBH:=Lib.hid (fun W hW=>rbehind_any _ L bs HBS.out 1 W (HSL.out W hW))
  have q1:(bs 0==243)=false:=by simpa using n0
  have q2:(bs 0==15)=false:=by simpa using n1
  have q3:(bs 0==242)=false:=by simpa using n2
  have q4:(bs 0==102)=false:=by simpa using n3
  clear hrow hbd n0 n1 n2 n3
  generalize behF L bs 1=rgb at *
  generalize behM L bs 1=mdb at *
  have HHO:=Lib.hid hh
  clear hh
  cases wait
  cases ok
  iterate 3
   simp only[Bool.false_eq_true,reduceIte]at ht
   have HO:=Lib.hid ht
   clear ht
   rotate_left
  all_goals
   go_wp2_with (first
    |(go_at_call 22;refine(HBH.out _ HB.out.below).mono ?_;rintro e u1 ⟨rfl,nq,rfl⟩;have HB:=Lib.hid (HB.out.dr nq))
    |((first|go_at_call 20|go_at_call 21);refine(HFI.out _).mono ?_;rintro e u2 ⟨rfl,hb2⟩;have HB:=Lib.hid (HB.out.ext hb2);clear hb2)
    |(refine store_frm rfl (.tmp 6) _ rfl (w.heap.size+1) rfl g rfl HB.out.frm ?_;intro Z hZ;have HF:=Lib.hid (HB.out.put g hZ);clear hZ)
    |(refine store_ins rfl (.tmp 2) _ rfl w.heap.size rfl zeroI rfl HF.out.res ?_;intro Y hY hl;have HY:=Lib.hid hY;have HL:=Lib.hid hl;clear hY hl)
    |(refine store_ins rfl (.tmp 2) _ rfl w.heap.size rfl zeroI rfl HB.out.res ?_;intro Y hY hl;have HY:=Lib.hid hY;have HL:=Lib.hid hl;clear hY hl))
   first
    |(refine bodyPost_ret (results_cell_tmp rfl rfl rfl HL.out) rfl ⟨by rw[HO.out];rfl,?_⟩;rw[HY.out];first|exact below_setCells (Nat.le_refl _) _ _ _ HF.out.below|exact below_setCells (Nat.le_refl _) _ _ _ HB.out.below)
    |((try rw[show ∀(a:Act),a.put none undef=a from fun _=>rfl]);go_meet;refine⟨g,_,_,?_,?_,?_,HHO.out,HO.out,HF.out⟩;all_goals first|rfl|omega)
 case rest=>
  obtain⟨g,rep,k,rfl,rfl,hkL,hh,hO,hF⟩:=hcut
  have HFQ:=Lib.hid hF
  have HO:=Lib.hid hO
  have hsz:(⟨g.how.toArray⟩:ByteArray).size≤100:=by unfold howOk at hh;simp only[Bool.and_eq_true,decide_eq_true_eq]at hh;show g.how.toArray.size≤100;simpa using hh.1
  have HHO:=Lib.hid hh
  clear hF hO hh hA0 hA1
  go_upto_region 38 with fail
  go_cut [13] (fun s13 wx=>∃j,s13=.pointer (some ⟨j,0,none⟩)∧w.heap.size+1<j∧wx.rangeAt j 0 (insL (i0 g rep))∧FInv w g wx)
  case first=>
   refine wp_region_mind (γ:=Unit) (by kernel_rfl) (fun i=>i==11) (fun i=>if i=11 then 10 else i) (by kernel_rfl) () (fun u _=>FInv w g u) (fun u _ u' _=>SG (insL (i0 g rep)) u u') (fun i v x u _=>SV w g rep i v x u) sv_stays (fun u _=>sg_refl u) HFQ.out.drawn ?_ ?_
   ·intro i o b u gg ho hinv hsz hbase hdep
    have hi:i<12:=(Array.getElem?_eq_some_iff.1 ho).1
    have b6:b.tmps.getD 6 undef=.pointer (some ⟨w.heap.size+1,0,none⟩):=hbase 6 (by kernel_rfl)
    have b8:b.tmps.getD 8 undef=.bool rep:=hbase 8 (by kernel_rfl)
    obtain⟨f0,f1,f2,f3⟩:=frm_cells hinv
    clear hbase hsz
    have h12:i=0∨i=1∨i=2∨i=3∨i=4∨i=5∨i=6∨i=7∨i=8∨i=9∨i=10∨i=11:=by omega
    rcases h12 with rfl|rfl|rfl|rfl|rfl|rfl|rfl|rfl|rfl|rfl|rfl|rfl
    ·cases ho
     exact wp_val (by simp[execOp,Act.eval,b6,go_sem]<;>rfl) ⟨_,(),rfl,hinv,sg_refl _,rfl⟩
    ·cases ho
     have d:b.tmps.getD 111 undef=.pointer (some ⟨w.heap.size+1,0,none⟩):=hdep 0 (by kernel_rfl)
     exact wp_val (by simp[execOp,Act.eval,d,go_sem,f0]<;>rfl) ⟨_,(),rfl,hinv,sg_refl _,rfl⟩
    ·cases ho
     exact wp_val (by simp[execOp,Act.eval,b6,go_sem]<;>rfl) ⟨_,(),rfl,hinv,sg_refl _,rfl⟩
    ·cases ho
     have d:b.tmps.getD 113 undef=.pointer (some ⟨w.heap.size+1,1,none⟩):=hdep 2 (by kernel_rfl)
     exact wp_val (by simp[execOp,Act.eval,d,go_sem,f1]<;>rfl) ⟨_,(),rfl,hinv,sg_refl _,rfl⟩
    ·cases ho
     exact wp_val (by simp[execOp,Act.eval,b6,go_sem]<;>rfl) ⟨_,(),rfl,hinv,sg_refl _,rfl⟩
    ·cases ho
     have d:b.tmps.getD 115 undef=.pointer (some ⟨w.heap.size+1,2,none⟩):=hdep 4 (by kernel_rfl)
     exact wp_val (by simp[execOp,Act.eval,d,go_sem,f2]<;>rfl) ⟨_,(),rfl,hinv,sg_refl _,rfl⟩
    ·cases ho
     refine wp_call (by simp[execOp,go_sem]<;>rfl) ((rnone_any u).mono ?_)
     rintro e u' ⟨rfl,rfl⟩
     exact⟨_,rfl,_,(),rfl,hinv.ext (below_last (Below.refl _ _) _),sg_below (below_last (Below.refl _ _) _),rfl⟩
    ·cases ho
     refine wp_call (by simp[execOp,go_sem]<;>rfl) ((rnone_any u).mono ?_)
     rintro e u' ⟨rfl,rfl⟩
     exact⟨_,rfl,_,(),rfl,hinv.ext (below_last (Below.refl _ _) _),sg_below (below_last (Below.refl _ _) _),rfl⟩
    ·cases ho
     exact wp_val (by simp[execOp,Act.eval,b8]<;>rfl) ⟨_,(),rfl,hinv,sg_refl _,rfl⟩
    ·cases ho
     have d1:b.tmps.getD 112 undef=.int .i64 g.op:=hdep 1 (by kernel_rfl)
     have d3:b.tmps.getD 114 undef=.int .i64 g.cond:=hdep 3 (by kernel_rfl)
     have d5:b.tmps.getD 116 undef=.int .i64 g.size:=hdep 5 (by kernel_rfl)
     have d6:b.tmps.getD 117 undef=.agg #[.int .i64 0,.int .i64 0,.int .i64 (-1),.int .i64 (-1),.int .i64 1,.int .u32 0]:=hdep 6 (by kernel_rfl)
     have d7:b.tmps.getD 118 undef=.agg #[.int .i64 0,.int .i64 0,.int .i64 (-1),.int .i64 (-1),.int .i64 1,.int .u32 0]:=hdep 7 (by kernel_rfl)
     have d8:b.tmps.getD 119 undef=.bool rep:=hdep 8 (by kernel_rfl)
     rw[Array.getD_eq_getD_getElem?]at d1 d3 d5 d6 d7 d8
     exact wp_val (by simp[execOp,Act.eval,d1,d3,d5,d6,d7,d8,go_sem]<;>rfl) ⟨_,(),rfl,hinv,sg_refl _,rfl⟩
    ·cases ho
     exact wp_val (u':=u.alloc (.cells zeroA 34)) (v:=.pointer (some ⟨u.heap.size,0,none⟩)) (by simp[execOp,go_sem]<;>rfl) ⟨_,(),rfl,hinv.ext (below_last (Below.refl _ _) _),sg_below (below_last (Below.refl _ _) _),u.heap.size,rfl,hinv.lt,there_alloc_new u _ _ 18 (by decide)⟩
    ·cases ho
     have d9:b.tmps.getD 120 undef=.agg (insL (i0 g rep)).toArray:=hdep 9 (by kernel_rfl)
     obtain⟨j,hk1,hk2,hk3⟩:=hdep 10 (by kernel_rfl)
     have d10:b.tmps.getD 13 undef=.pointer (some ⟨j,0,none⟩):=hk1
     refine wp_store_mid 34 (.tmp 13) (.tmp 120) rfl j 0 (insL (i0 g rep)).toArray d10 d9 hk3 info_ins (ins_one _) ⟨_,(),rfl,hinv.put j 0 hk2 _,sg_put hk3,j,hk1,hk2,World.rangeAt_setCells_same u j 0 _ hk3⟩
   ·intro ff u gg hinv hVV
    obtain⟨j,hk1,hk2,hk3⟩:=hVV 11 (by decide)
    have h13:ff 10=.pointer (some ⟨j,0,none⟩):=hk1
    simp only[List.size_toArray,List.length_cons,List.length_nil,Nat.reduceAdd,laid,List.getElem?_toArray,List.getElem?_cons_zero,List.getElem?_cons_succ,Option.bind_some,Act.put,List.setIfInBounds_toArray,List.set_cons_zero,List.set_cons_succ]
    go_wp2_with fail
    go_meet
    case rel=>exact⟨j,by first|rfl|exact h13,hk2,hk3,hinv⟩
  case rest=>
   obtain⟨j,rfl,hk2,hk3,hf3⟩:=hcut
   have hkl:j<wc.heap.size:=cell_lt (hk3 0 _ rfl)
   obtain⟨f0,f1,f2,f3⟩:=frm_cells hf3
   have hfl:=hf3.lt
   have HFA:=Lib.hid (hf3.ext (below_last (Below.refl _ _) (.cells #[.int .i64 0,.int .i64 0,.int .i64 0,.int .i64 0,.int .i64 0,.int .u32 0] 32)))
   have HKA:=Lib.hid (range_alloc (.cells #[.int .i64 0,.int .i64 0,.int .i64 0,.int .i64 0,.int .i64 0,.int .u32 0] 32) hk3 hkl)
   have HTO:=Lib.hid (there_alloc_new wc #[.int .i64 0,.int .i64 0,.int .i64 0,.int .i64 0,.int .i64 0,.int .u32 0] 32 6 (by decide))
   have HOX:=Lib.hid (show(wc.alloc (.cells #[.int .i64 0,.int .i64 0,.int .i64 0,.int .i64 0,.int .i64 0,.int .u32 0] 32)).rangeAt wc.heap.size 0 (opL' zeroO)from range_block (heap_top0 wc (.cells #[.int .i64 0,.int .i64 0,.int .i64 0,.int .i64 0,.int .i64 0,.int .u32 0] 32) _ rfl))
   have HHR:=Lib.hid (rhasrm_any ⟨g.how.toArray⟩ hsz)
   clear hk3 hf3
   have hsl:=fun W=>slice_tail ad L cap k k rfl hkL W
   have ia:(k:Int)≤(L:Int):=by omega
   have hL2b:(L:Int)≤1099511627776:=by omega
   have HRMA:=Lib.hid (fun W (hW:Below w.heap.size w W)=>rm_any _ (L-k) _ (fun i=>HBS.out (k+i)) W ((slc_tail HC.out HLC.out k hkL).below hW) (by unfold maxLen;omega))
   have HMDA:=Lib.hid (fun(o:Opd) (r:Int) (K:Nat) (hK:K≤L) (W:World) (hW:Below w.heap.size w W)=>rmade_ok (i0 g rep) g o r _ L bs K HBS.out W (HSL.out W hW) hL hK HHO.out)
   go_wp2_with fail
   refine(HHR.out _).mono ?_
   rintro e w2 ⟨rfl,rfl⟩
   cases hhas:hasF g.how with
   |false=>
    have hO:=HO.out
    rw[go_norm hhas]at hO
    have HMD:=HMDA.out zeroO 0 k hkL
    generalize madeF (i0 g rep) g zeroO 0 L bs k=m at hO HMD
    have HMD:Hid (∀W,Below w.heap.size w W→Calls Tryz.prog 26 #[insV (i0 g rep),frmV g,opV zeroO,.int .i64 0,.slice (some ad) L cap,.int .i64 (k:Int)] W fun e w'=>e=.returned (.tuple #[insV m.1,.int .i64 m.2])∧Below W.heap.size W w'):=HMD
    have HOM:=Lib.hid hO
    have HFX:=HFA
    have HKX:=HKA
    clear hO hhas
    go_wp2_with (first
     |(refine wpList_load_mid rfl 34 (.tmp 13) rfl j 0 rfl (insL (i0 g rep)) _ HKX.out Tryz.underlying34 rfl info_ins ?_)
     |(refine wpList_load_mid rfl 63 (.tmp 6) rfl (w.heap.size+1) 0 rfl (frmL g) _ HFX.out.frm Tryz.underlying63 rfl info_frm ?_)
     |(refine wpList_load_mid rfl 32 (.tmp 14) rfl wc.heap.size 0 rfl (opL' zeroO) _ HOX.out Tryz.underlying32 rfl info_opd1 ?_))
    refine(HMD.out _ HFX.out.below).mono ?_
    rintro e w3 ⟨rfl,hb3⟩
    have HB3:=Lib.hid (HFX.out.below.trans (hb3.mono HFX.out.below.size))
    have HR3:=Lib.hid (HFX.out.ext hb3).res
    clear hb3
    go_wp2_with (refine store_ins rfl (.tmp 2) (.tmp 147) rfl w.heap.size rfl m.1 rfl HR3.out ?_;intro Y hY hl;have HY:=Lib.hid hY;have HL:=Lib.hid hl;clear hY hl)
    refine bodyPost_ret (results_cell_tmp rfl rfl rfl HL.out) rfl ⟨by rw[HOM.out];rfl,?_⟩
    rw[HY.out]
    exact below_setCells (Nat.le_refl _) _ _ _ HB3.out
   |true=>
    cases hrm:rmF (L-k) (fun i=>bs (k+i))with
    |none=>
     have HRM:Hid (∀W,Below w.heap.size w W→Calls Tryz.prog 25 #[.slice (some (cutA ad cap k)) (L-k) (cap-k)] W fun e w'=>e=.returned (.tuple #[.agg #[.int .i64 0,.int .i64 0,.int .i64 0,.int .i64 0,.int .i64 0,.int .u32 0],.int .i64 0,.int .i64 0,.int .i64 21])∧Below W.heap.size W w'):=fun W hW=>by
      rw[←rmV_none hrm]
      exact HRMA.out W hW
     have HOM:=Lib.hid (HO.out.trans (go_none hhas hrm))
     clear hrm hhas
     go_wp2_with fail
     refine(HRM.out _ HFA.out.below).mono ?_
     rintro e w2 ⟨rfl,hb2⟩
     have HTO2:=Lib.hid (there_but (F:=fun _=>False) (But.of_below hb2) (fun h=>h) (by simp) HTO.out)
     have HKA2:=Lib.hid (range_but (F:=fun _=>False) (But.of_below hb2) (fun h=>h) HKA.out)
     have HFA2:=Lib.hid (HFA.out.ext hb2)
     have hws:wc.heap.size<w2.heap.size:=by have:=hb2.size;simp at this;omega
     clear hb2
     go_wp2_with (first
      |(refine store_mid rfl 32 (.tmp 14) (.tmp 129) rfl wc.heap.size 0 rfl (opL' zeroO) rfl info_opd1 (opd_one zeroO) HTO2.out ?_;intro Z1 hZ1;have HFZ:=Lib.hid (show FInv w g Z1 by rw[hZ1];exact HFA2.out.put _ _ hfl _);clear hZ1)
      |(refine store_ins rfl (.tmp 2) (.tmp 135) rfl w.heap.size rfl zeroI rfl HFZ.out.res ?_;intro Y hY hl;have HY:=Lib.hid hY;have HL:=Lib.hid hl;clear hY hl))
     refine bodyPost_ret (results_cell_tmp rfl rfl rfl HL.out) rfl ⟨by rw[HOM.out];rfl,?_⟩
     rw[HY.out]
     exact below_setCells (Nat.le_refl _) _ _ _ HFZ.out.below
    |some x=>
     obtain⟨o,r,n⟩:=x
     have hnl:=(rm_three hrm).1
     have HRM:Hid (∀W,Below w.heap.size w W→Calls Tryz.prog 25 #[.slice (some (cutA ad cap k)) (L-k) (cap-k)] W fun e w'=>e=.returned (.tuple #[.agg #[.int .i64 o.kind,.int .i64 o.reg,.int .i64 o.base,.int .i64 o.index,.int .i64 o.scale,.int .u32 o.disp],.int .i64 r,.int .i64 n,.int .i64 0])∧Below W.heap.size W w'):=fun W hW=>by
      rw[←rmV_some hrm]
      exact HRMA.out W hW
     have hO:=HO.out.trans (go_some hhas hrm)
     have HMD:=HMDA.out o r (k+n) (by omega)
     generalize madeF (i0 g rep) g o r L bs (k+n)=m at hO HMD
     have HMD:Hid (∀W,Below w.heap.size w W→Calls Tryz.prog 26 #[insV (i0 g rep),frmV g,opV o,.int .i64 r,.slice (some ad) L cap,.int .i64 ((k:Int)+(n:Int))] W fun e w'=>e=.returned (.tuple #[insV m.1,.int .i64 m.2])∧Below W.heap.size W w'):=HMD
     have HOM:=Lib.hid hO
     have hni:(k:Int)+(n:Int)≤(L:Int):=by omega
     clear hO hhas hrm hnl
     go_wp2_with fail
     refine(HRM.out _ HFA.out.below).mono ?_
     rintro e w2 ⟨rfl,hb2⟩
     have HTO2:=Lib.hid (there_but (F:=fun _=>False) (But.of_below hb2) (fun h=>h) (by simp) HTO.out)
     have HKA2:=Lib.hid (range_but (F:=fun _=>False) (But.of_below hb2) (fun h=>h) HKA.out)
     have HFA2:=Lib.hid (HFA.out.ext hb2)
     have hws:wc.heap.size<w2.heap.size:=by have:=hb2.size;simp at this;omega
     clear hb2
     go_wp2_with (first
      |(refine store_mid rfl 32 (.tmp 14) (.tmp 129) rfl wc.heap.size 0 rfl (opL' o) rfl info_opd1 (opd_one o) HTO2.out ?_;intro Z1 hZ1;have HFX:=Lib.hid (show FInv w g Z1 by rw[hZ1];exact HFA2.out.put _ _ hfl _);have HKX:=Lib.hid (show Z1.rangeAt j 0 (insL (i0 g rep))by rw[hZ1];exact World.rangeAt_setCells_apart HKA2.out _ _ _ (.inl (by omega)));have HOX:=Lib.hid (show Z1.rangeAt wc.heap.size 0 (opL' o)by rw[hZ1];exact World.rangeAt_setCells_same _ _ _ _ HTO2.out);clear hZ1)
      |(refine wpList_load_mid rfl 34 (.tmp 13) rfl j 0 rfl (insL (i0 g rep)) _ HKX.out Tryz.underlying34 rfl info_ins ?_)
      |(refine wpList_load_mid rfl 63 (.tmp 6) rfl (w.heap.size+1) 0 rfl (frmL g) _ HFX.out.frm Tryz.underlying63 rfl info_frm ?_)
      |(refine wpList_load_mid rfl 32 (.tmp 14) rfl wc.heap.size 0 rfl (opL' o) _ HOX.out Tryz.underlying32 rfl info_opd1 ?_))
     refine(HMD.out _ HFX.out.below).mono ?_
     rintro e w3 ⟨rfl,hb3⟩
     have HB3:=Lib.hid (HFX.out.below.trans (hb3.mono HFX.out.below.size))
     have HR3:=Lib.hid (HFX.out.ext hb3).res
     clear hb3
     go_wp2_with (refine store_ins rfl (.tmp 2) (.tmp 147) rfl w.heap.size rfl m.1 rfl HR3.out ?_;intro Y hY hl;have HY:=Lib.hid hY;have HL:=Lib.hid hl;clear hY hl)
     refine bodyPost_ret (results_cell_tmp rfl rfl rfl HL.out) rfl ⟨by rw[HOM.out];rfl,?_⟩
     rw[HY.out]
     exact below_setCells (Nat.le_refl _) _ _ _ HB3.out
end
section
set_option maxRecDepth 100000
theorem one15_any:OneC 10:=fun v L bs hb hL w hs=>rone_any v L bs hb hL w hs
end
section
open Go.ChangeShapes Go.WideShapes Go.ChangeAt Go.RowKit
section
variable {H:Type} {enc:TypeId×Value→H} {w:World} {base:Nat} {spare:Nat→Bool} {held:Bool}
set_option maxRecDepth 10000
theorem open_rowu32{r:Reach}{b0:Nat}{v:Value}{x:DataW H}{ps:List MemPlace}(hv:Value.okWide Tryz.prog w r b0 23 v)(h:DataW.Trod enc Tryz.prog w base spare held 23 v x ps):
  ∃f:Nat→Int,v=.agg (rowL_u32 f).toArray∧x=arrD H .u32 f∧ps=[]∧∀i,i<8→(.int .u32 (f i):Lit).wf=true:=by
 obtain⟨cs,rfl,hsz⟩:∃cs,v=.agg cs∧cs.size=Tryz.prog.cellsOf 23:=by
  simp only[Value.okWide,Tryz.underlying23]at hv
  obtain⟨cs,h1,h2,_⟩:=hv
  exact⟨cs,h1,h2⟩
 obtain⟨fuel,hf⟩:=h
 obtain⟨l⟩:=cs
 match l,hsz.trans cell_a4 with
 |[c0,c1,c2,c3,c4,c5,c6,c7],_=>
  obtain⟨f,⟨rfl,rfl,rfl,rfl,rfl,rfl,rfl,rfl⟩,hx,hw⟩:=open_arru32 hf
  injection hx with h1 h2
  exact⟨f,rfl,h1,h2,hw⟩
theorem shut_rowu32(f:Nat→Int)(h:∀i,i<8→(.int .u32 (f i):Lit).wf=true):DataW.Trod enc Tryz.prog w base spare held 23 (.agg (rowL_u32 f).toArray) (arrD H .u32 f) []:=by
 have r0:=h 0 (by decide)
 have r1:=h 1 (by decide)
 have r2:=h 2 (by decide)
 have r3:=h 3 (by decide)
 have r4:=h 4 (by decide)
 have r5:=h 5 (by decide)
 have r6:=h 6 (by decide)
 have r7:=h 7 (by decide)
 exact⟨3,by simp[arrD,rowL_u32,DataW.trod,Value.cells,List.range,List.range.loop,Tryz.underlying23,Tryz.underlying22,cell_u4,cell_a4,r0,r1,r2,r3,r4,r5,r6,r7]⟩
theorem open_rowu64{r:Reach}{b0:Nat}{v:Value}{x:DataW H}{ps:List MemPlace}(hv:Value.okWide Tryz.prog w r b0 27 v)(h:DataW.Trod enc Tryz.prog w base spare held 27 v x ps):
  ∃f:Nat→Int,v=.agg (rowL_u64 f).toArray∧x=arrD H .u64 f∧ps=[]∧∀i,i<8→(.int .u64 (f i):Lit).wf=true:=by
 obtain⟨cs,rfl,hsz⟩:∃cs,v=.agg cs∧cs.size=Tryz.prog.cellsOf 27:=by
  simp only[Value.okWide,Tryz.underlying27]at hv
  obtain⟨cs,h1,h2,_⟩:=hv
  exact⟨cs,h1,h2⟩
 obtain⟨fuel,hf⟩:=h
 obtain⟨l⟩:=cs
 match l,hsz.trans cell_a8 with
 |[c0,c1,c2,c3,c4,c5,c6,c7],_=>
  obtain⟨f,⟨rfl,rfl,rfl,rfl,rfl,rfl,rfl,rfl⟩,hx,hw⟩:=open_arru64 hf
  injection hx with h1 h2
  exact⟨f,rfl,h1,h2,hw⟩
theorem shut_rowu64(f:Nat→Int)(h:∀i,i<8→(.int .u64 (f i):Lit).wf=true):DataW.Trod enc Tryz.prog w base spare held 27 (.agg (rowL_u64 f).toArray) (arrD H .u64 f) []:=by
 have r0:=h 0 (by decide)
 have r1:=h 1 (by decide)
 have r2:=h 2 (by decide)
 have r3:=h 3 (by decide)
 have r4:=h 4 (by decide)
 have r5:=h 5 (by decide)
 have r6:=h 6 (by decide)
 have r7:=h 7 (by decide)
 exact⟨3,by simp[arrD,rowL_u64,DataW.trod,Value.cells,List.range,List.range.loop,Tryz.underlying27,Tryz.underlying26,cell_u8,cell_a8,r0,r1,r2,r3,r4,r5,r6,r7]⟩
end
set_option maxRecDepth 100000
theorem row_u32_ok{f:Nat→Int}(h:∀i,i<8→(.int .u32 (f i):Lit).wf=true):∀i,i<8→0≤f i∧f i<4294967296:=fun i hi=>by
 have:=bounds_u32 (h i hi)
 omega
theorem row_u64_ok{f:Nat→Int}(h:∀i,i<8→(.int .u64 (f i):Lit).wf=true):∀i,i<8→0≤f i∧f i<18446744073709551616:=fun i hi=>by
 have:=bounds_u64 (h i hi)
 omega
end
end Go.Proofs.YtmdncgfheeijaaaGreat
