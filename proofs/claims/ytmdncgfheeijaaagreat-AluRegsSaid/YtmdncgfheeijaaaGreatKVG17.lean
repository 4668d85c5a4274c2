import Derived.Deep.MidRow
import Derived.Deep.RegionWith
import Derived.Test.YtmdncgfheeijaaaGreatKVG15
import Derived.Test.YtmdncgfheeijaaaGreatKVG3
namespace Go.Proofs.YtmdncgfheeijaaaGreat
section
open Go.ChangeShapes Go.WideShapes Go.ChangeAt Go.RowKit Go.Maps Go.Deep
set_option maxRecDepth 100000
def sgL(s:Sg):List Value:=[.int .u32 s.b,.int .u32 s.z,.bool s.r,.bool s.q,.bool s.x]
def rbL(p:Nat)(c d:Sg):List Value:=[.pointer (some ⟨p,0,none⟩),.int .u32 c.b,.int .u32 c.z,.bool c.r,.bool c.q,.bool c.x,.int .u32 d.b,.int .u32 d.z,.bool d.r,.bool d.q,.bool d.x]
structure RAt (w:World) (b p B:Nat) (F:Nat→Prop) (g:Int→Int) (c d:Sg):Prop where
 bus:w.heap[b]?=some (.cells (rbL p c d).toArray 59 (0,0))
 ptr:w.cell? ⟨p,0,none⟩=some (.map (some B))
 map:RefMap w B 4294967296 g
 own:∀k,F k↔(k=b∨k=p∨k=B)
 bp:b≠p
 bB:b≠B
 pB:p≠B
 ok:c.ok∧d.ok
def RBus(w:World)(b:Nat)(F:Nat→Prop)(g:Int→Int)(c d:Sg):Prop:=∃p B,RAt w b p B F g c d
theorem RAt.but{F G:Nat→Prop}{w w':World}{b p B:Nat}{g:Int→Int}{c d:Sg}(h:RAt w b p B F g c d)(hb:But G w w')(hn:∀k,F k→¬G k):RAt w' b p B F g c d:=
 ⟨(hb.block b (Array.getElem?_eq_some_iff.1 h.bus).1 (hn b ((h.own b).2 (.inl rfl)))).trans h.bus,hb.cell h.ptr (hn p ((h.own p).2 (.inr (.inl rfl)))),h.map.but hb (hn B ((h.own B).2 (.inr (.inr rfl)))),h.own,h.bp,h.bB,h.pB,h.ok⟩
theorem RBus.but{F G:Nat→Prop}{w w':World}{b:Nat}{g:Int→Int}{c d:Sg}(h:RBus w b F g c d)(hb:But G w w')(hn:∀k,F k→¬G k):RBus w' b F g c d:=by
 obtain⟨p,B,h⟩:=h
 exact⟨p,B,h.but hb hn⟩
theorem RBus.below{F:Nat→Prop}{w w':World}{b:Nat}{g:Int→Int}{c d:Sg}(h:RBus w b F g c d)(hb:Below w.heap.size w w'):RBus w' b F g c d:=
 h.but (G:=fun _=>False) (But.of_below hb) (fun _ _ h=>h)
theorem RAt.lt{F:Nat→Prop}{w:World}{b p B:Nat}{g:Int→Int}{c d:Sg}(h:RAt w b p B F g c d)(k:Nat)(hk:F k):k<w.heap.size:=by
 rcases(h.own k).1 hk with rfl|rfl|rfl
 ·exact(Array.getElem?_eq_some_iff.1 h.bus).1
 ·exact cell_lt h.ptr
 ·obtain⟨D,hm,_⟩:=h.map
  exact hm.lt
theorem RBus.lt{F:Nat→Prop}{w:World}{b:Nat}{g:Int→Int}{c d:Sg}(h:RBus w b F g c d)(k:Nat)(hk:F k):k<w.heap.size:=by
 obtain⟨p,B,h⟩:=h
 exact h.lt k hk
theorem RBus.byte{F:Nat→Prop}{w:World}{b:Nat}{g:Int→Int}{c d:Sg}(h:RBus w b F g c d)(a:Int):0≤g a∧g a<256:=by
 obtain⟨p,B,h⟩:=h
 obtain⟨D,_,_,_,hg,_⟩:=h.map
 exact hg a
theorem rwidth_any(size:Int)(w:World):Calls Tryz.prog 131 #[.int .i64 size] w fun e w'=>e=.returned (.int .i64 (widN size:Int))∧w=w':=by
 by_cases h1:size=1
 ·subst h1
  go_enter Tryz.func131,Tryz.ntmps131
  go_wp2
  go_ret
  exact⟨rfl,rfl⟩
 by_cases h2:size=2
 ·subst h2
  go_enter Tryz.func131,Tryz.ntmps131
  go_wp2
  go_ret
  exact⟨rfl,rfl⟩
 by_cases h8:size=8
 ·subst h8
  go_enter Tryz.func131,Tryz.ntmps131
  go_wp2
  go_ret
  exact⟨rfl,rfl⟩
 have e1:(size==1)=false:=by simpa using h1
 have e2:(size==2)=false:=by simpa using h2
 have e8:(size==8)=false:=by simpa using h8
 have HV:=Lib.hid (show widN size=4 by unfold widN;rw[if_neg h1,if_neg h2,if_neg h8])
 clear h1 h2 h8
 go_enter Tryz.func131,Tryz.ntmps131
 go_wp2
 go_ret
 exact⟨by rw[HV.out];rfl,rfl⟩
def hvN(g:Int→Int)(a:Int):Nat→Nat→Int
 |_,0=>0
 |i,m+1=>hvN g a (i+1) m*256+g (place a i)
theorem hvN_lt(g:Int→Int)(a:Int)(hg:∀k,0≤g k∧g k<256):∀m i,0≤hvN g a i m∧hvN g a i m<256^m
 |0,_=>⟨Int.le_refl _,by show(0:Int)<256^0;decide⟩
 |m+1,i=>by
  have h:=hvN_lt g a hg m (i+1)
  have h2:=hg (place a i)
  unfold hvN
  rw[Int.pow_succ]
  omega
theorem hvN_le(g:Int→Int)(a:Int){N:Nat}(hN:N=1∨N=2∨N=4∨N=8):hvN g a 0 N=leV g a N:=by
 rcases hN with rfl|rfl|rfl|rfl<;>simp[hvN,leV]<;>omega
theorem widN_is(size:Int):widN size=1∨widN size=2∨widN size=4∨widN size=8:=by
 unfold widN;split<;>(try split)<;>(try split)<;>simp
theorem or_low8(v b:Int)(v0:0≤v)(v1:v<72057594037927936)(b0:0≤b)(b1:b<256):bits .or .u64 (v*256) b=v*256+b:=by
 obtain⟨n,rfl⟩:=Int.eq_ofNat_of_zero_le b0
 obtain⟨m,rfl⟩:=Int.eq_ofNat_of_zero_le v0
 rw[show(m:Int)*256=((m*256:Nat):Int)by omega,u64_or_nat _ _ (by omega) (by omega),or_shift m n 8 (by omega)]
 omega
theorem info_sg:(Tryz.prog.info? 57).map (·.size)=some 5:=by kernel_rfl
theorem RAt.data{F:Nat→Prop}{w:World}{b p B:Nat}{g:Int→Int}{c d:Sg}(h:RAt w b p B F g c d):w.rangeAt b 6 (sgL d):=fun j v hj=>by
 have hj5:j<5:=(List.getElem?_eq_some_iff.1 hj).1
 have hc:=(cell_block h.bus (6+j)).1
 rw[hc]
 rcases(show j=0∨j=1∨j=2∨j=3∨j=4 by omega)with rfl|rfl|rfl|rfl|rfl<;>exact hj
theorem RAt.code{F:Nat→Prop}{w:World}{b p B:Nat}{g:Int→Int}{c d:Sg}(h:RAt w b p B F g c d):w.rangeAt b 1 (sgL c):=fun j v hj=>by
 have hj5:j<5:=(List.getElem?_eq_some_iff.1 hj).1
 have hc:=(cell_block h.bus (1+j)).1
 rw[hc]
 rcases(show j=0∨j=1∨j=2∨j=3∨j=4 by omega)with rfl|rfl|rfl|rfl|rfl<;>exact hj
theorem RBus.code{F:Nat→Prop}{w:World}{b:Nat}{g:Int→Int}{c d:Sg}(h:RBus w b F g c d):w.rangeAt b 1 (sgL c):=by obtain⟨p,B,h⟩:=h;exact h.code
theorem RBus.data{F:Nat→Prop}{w:World}{b:Nat}{g:Int→Int}{c d:Sg}(h:RBus w b F g c d):w.rangeAt b 6 (sgL d):=by obtain⟨p,B,h⟩:=h;exact h.data
theorem rat_sg(d:Sg)(off n what:Int)(hd:d.ok)(o0:0≤off)(o1:off<4294967296)(w:World):Calls Tryz.prog 132 #[.agg (sgL d).toArray,.int .u32 off,.int .i64 n,.int .i64 what] w fun e w'=>e=.returned (.tuple #[.int .u32 (atV d.b d.z d.r d.q d.x off n what),.int .i64 (atE d.b d.z d.r d.q d.x off n what)])∧Below w.heap.size w w':=
 rat_any d.b d.z d.r d.q d.x off n what hd.1.1 hd.1.2 hd.2.1 hd.2.2 o0 o1 w
theorem at_yes{d:Sg}{off n what:Int}(h:atE d.b d.z d.r d.q d.x off n what=0):atV d.b d.z d.r d.q d.x off n what=d.b+off∧d.b+off<4294967296:=by
 unfold atE at h
 unfold atV
 cases hm:mayB d.r d.q d.x what
 ·rw[hm]at h;simp at h
 ·cases hf:fitB d.b d.z off n
  ·rw[hm,hf]at h;simp at h
  ·exact⟨rfl,(fit_lt _ _ _ _ hf).2.1⟩
set_option maxHeartbeats 4000000
theorem rbload_any(b:Nat)(F:Nat→Prop)(g:Int→Int)(c d:Sg)(off size:Int)(o0:0≤off)(o1:off<4294967296)(w:World)(h:RBus w b F g c d):
  Calls Tryz.prog 106 #[.pointer (some ⟨b,0,none⟩),.int .u32 off,.int .i64 size] w fun e w'=>e=.returned (.tuple #[.int .u64 (ldV g d off size),.int .i64 (ldE d off size)])∧Below w.heap.size w w':=by
 obtain⟨p,B,h⟩:=h
 have HR:=Lib.hid h
 have HW:=Lib.hid (rwidth_any size)
 obtain⟨N,hN⟩:∃N,widN size=N:=⟨_,rfl⟩
 have hN4:=widN_is size
 have HA:=Lib.hid (fun u=>rat_sg d off (N:Int) 0 h.ok.2 o0 o1 u)
 have HV:=Lib.hid (show ldV g d off size=if ldE d off size=0 then leV g (d.b+off) N else 0 by rw[←hN];rfl)
 have HEE:=Lib.hid (show ldE d off size=atE d.b d.z d.r d.q d.x off N 0 by rw[←hN];rfl)
 rw[hN]at hN4 HW
 obtain⟨E,hE⟩:∃E,atE d.b d.z d.r d.q d.x off N 0=E:=⟨_,rfl⟩
 obtain⟨V,hV⟩:∃V,atV d.b d.z d.r d.q d.x off N 0=V:=⟨_,rfl⟩
 have HY:=Lib.hid (show E=0→V=d.b+off∧d.b+off<4294967296 by rw[←hE,←hV];exact at_yes)
 have HD:=Lib.hid h.ok.2
 rw[hE]at HEE
 rw[hE,hV]at HA
 have HN4:=Lib.hid hN4
 clear hN hE hV h hN4
 go_enter Tryz.func106,Tryz.ntmps106
 go_wp2_with fail
 ((with_reducible refine(HW.out _).mono ?_);rintro e w' ⟨rfl,rfl⟩)
 go_wp2_with (refine wpList_load_mid rfl 57 (.tmp 18) rfl b 6 rfl (sgL d) _ HR.out.data Tryz.underlying57 rfl info_sg ?_)
 ((with_reducible refine(HA.out _).mono ?_);rintro e w1 ⟨rfl,b1⟩)
 have HR1:=Lib.hid (HR.out.but (G:=fun _=>False) (But.of_below b1) (fun _ _ h=>h))
 have HB1:=Lib.hid b1
 clear b1
 by_cases hE0:E=0
 ·subst hE0
  obtain⟨hv,hlt⟩:=HY.out rfl
  subst hv
  have hb0:0≤d.b+off:=by have:=HD.out.1;omega
  obtain⟨A,hA⟩:∃A,d.b+off=A:=⟨_,rfl⟩
  rw[hA]at hlt hb0 ⊢
  have HVA:=Lib.hid (show ldV g d off size=leV g A N by rw[HV.out,HEE.out,if_pos rfl,hA])
  have HG:=Lib.hid (fun k=>RBus.byte ⟨p,B,HR.out⟩ k)
  clear hA
  go_wp2_with fail
  have hn8:=HN4.out
  have hN0:(N:Int)-1=((N-1:Nat):Int):=by omega
  have HN8:=Lib.hid (show 1≤N∧N≤8 by omega)
  clear hn8
  go_loopw [11,12] (fun v11 v12 wr=>∃i:Nat,i≤N∧v12=.int .i64 ((i:Int)-1)∧v11=.int .u64 (hvN g A i (N-i))∧Below w1.heap.size w1 wr) (fun _ v12 _=>(intOf v12+1).toNat)
  case atStart=>exact⟨N,Nat.le_refl _,by have:=HN8.out;rw[show wrap64 ((N:Int)-1)=(N:Int)-1 by unfold wrap64;omega],by rw[Nat.sub_self];rfl,Below.refl _ _⟩
  case round=>
   obtain⟨i,hi,rfl,rfl,hb⟩:=hrel
   have HB:=Lib.hid hb
   have HRR:=Lib.hid (HR1.out.but (G:=fun _=>False) (But.of_below hb) (fun _ _ h=>h))
   clear hb
   cases i with
   |zero=>
    obtain⟨Z,hZ⟩:∃Z,hvN g A 0 (N-0)=Z:=⟨_,rfl⟩
    have HZ:=Lib.hid (show Z=leV g A N by rw[←hZ,Nat.sub_zero];exact hvN_le g A HN4.out)
    rw[hZ]
    clear hZ hN0 hi
    go_wp2_with fail
    go_ret2
    exact⟨by rw[HVA.out,HZ.out,HEE.out];rfl,HB1.out.trans (HB.out.mono HB1.out.size)⟩
   |succ j=>
    have c0:=cell_block HRR.out.bus 0
    have k0:wr.cell? ⟨b,0,none⟩=some (.pointer (some ⟨p,0,none⟩)):=c0.1
    have kp:=HRR.out.ptr
    have hp0:0≤(A+j)%4294967296:=by omega
    have hp1:(A+j)%4294967296<4294967296:=by omega
    have hget:=HRR.out.map.get _ hp0 hp1
    obtain⟨x,hx⟩:∃x,hvN g A (j+1) (N-(j+1))=x:=⟨_,rfl⟩
    have hxl:=hvN_lt g A HG.out (N-(j+1)) (j+1)
    have h7:N-(j+1)≤7:=by have:=HN8.out;omega
    have hpw:(256:Int)^(N-(j+1))≤256^7:=by
     exact_mod_cast Nat.pow_le_pow_right (by decide:0<256) h7
    have hpw':(256:Int)^7=72057594037927936:=by decide
    rw[hx]at hxl ⊢
    have x0:=hxl.1
    have x1:x<72057594037927936:=by omega
    obtain⟨y,hy⟩:∃y,g ((A+j)%4294967296)=y:=⟨_,rfl⟩
    have hyb:=HG.out ((A+j)%4294967296)
    rw[hy]at hyb hget
    have HH:=Lib.hid (show hvN g A j (N-j)=x*256+y by
     rw[show N-j=(N-(j+1))+1 by omega]
     unfold hvN
     rw[hx,show place A j=(A+j)%4294967296 from rfl,hy])
    have y0:=hyb.1
    have y1:=hyb.2
    have ho:=or_low8 x y x0 x1 y0 y1
    have e1:((j+1:Nat):Int)-1=(j:Int):=by omega
    rw[e1]
    have hwj:wrap64 ((j:Int)-1)=(j:Int)-1:=by have:=HN8.out;unfold wrap64;omega
    have hd:decide ((j:Int)≥0)=true:=by simp
    have hd':decide ((0:Int)≤j)=true:=by simp
    clear c0 hx hxl hpw hpw' hyb hy hN0 hp0 hp1 e1
    go_wp2_with fail
    go_roundw
    case rel=>exact⟨j,by omega,by go_num,by rw[HH.out],HB.out⟩
    case measure=>
     simp[intOf,hwj]<;>omega
 ·have e0:(E==0)=false:=by simpa using hE0
  have HVA:=Lib.hid (show ldV g d off size=0 by rw[HV.out,HEE.out,if_neg hE0])
  clear hE0
  go_wp2_with fail
  go_ret2
  exact⟨by rw[HVA.out,HEE.out];rfl,HB1.out⟩
theorem RAt.next{F:Nat→Prop}{w w':World}{b p B m:Nat}{g g':Int→Int}{c d:Sg}(h:RAt w b p B F g c d)(hb:But (·=B) w w')(hm:RefMap w' B m g'):RAt w' b p B F g' c d:=
 ⟨(hb.block b (Array.getElem?_eq_some_iff.1 h.bus).1 h.bB).trans h.bus,hb.cell h.ptr h.pB,hm.few,h.own,h.bp,h.bB,h.pB,h.ok⟩
theorem writeG_twice(g:Int→Int)(a:Int)(bs:Nat→Int)(n:Nat)(hn:n≤4294967296):writeG (writeG g a bs n) a bs n=writeG g a bs n:=by
 funext q
 by_cases h:∃i,i<n∧q=place a i
 ·obtain⟨i,hi,rfl⟩:=h
  rw[writeG_hit _ a bs n i hn hi,writeG_hit _ a bs n i hn hi]
 ·exact writeG_far _ a bs q n (fun i hi e=>h ⟨i,hi,e⟩)
theorem stG_twice(g:Int→Int)(d:Sg)(off size v:Int):stG (stG g d off size v) d off size v=stG g d off size v:=by
 unfold stG
 by_cases h:stE d off size=0
 ·rw[if_pos h,if_pos h]
  exact writeG_twice g _ _ _ (by have:=widN_hi size;omega)
 ·rw[if_neg h,if_neg h]
theorem rbstore_any(b:Nat)(F:Nat→Prop)(g:Int→Int)(c d:Sg)(off size v:Int)(o0:0≤off)(o1:off<4294967296)(w:World)(h:RBus w b F g c d):
  Calls Tryz.prog 139 #[.pointer (some ⟨b,0,none⟩),.int .u32 off,.int .i64 size,.int .u64 v] w fun e w'=>e=.returned (.int .i64 (stE d off size))∧RBus w' b F (stG g d off size v) c d∧But F w w':=by
 obtain⟨p,B,h⟩:=h
 have HR:=Lib.hid h
 have HW:=Lib.hid (rwidth_any size)
 obtain⟨N,hN⟩:∃N,widN size=N:=⟨_,rfl⟩
 have hN4:=widN_is size
 have HA:=Lib.hid (fun u=>rat_sg d off (N:Int) 1 h.ok.2 o0 o1 u)
 have HV:=Lib.hid (show stG g d off size v=if stE d off size=0 then writeG g (d.b+off) (byteOf v) N else g by rw[←hN];rfl)
 have HEE:=Lib.hid (show stE d off size=atE d.b d.z d.r d.q d.x off N 1 by rw[←hN];rfl)
 rw[hN]at hN4 HW
 obtain⟨E,hE⟩:∃E,atE d.b d.z d.r d.q d.x off N 1=E:=⟨_,rfl⟩
 obtain⟨V,hV⟩:∃V,atV d.b d.z d.r d.q d.x off N 1=V:=⟨_,rfl⟩
 have HY:=Lib.hid (show E=0→V=d.b+off∧d.b+off<4294967296 by rw[←hE,←hV];exact at_yes)
 have HD:=Lib.hid h.ok.2
 rw[hE]at HEE
 rw[hE,hV]at HA
 have HN8:=Lib.hid (show 1≤N∧N≤8 by omega)
 clear hN hE hV h hN4
 go_enter Tryz.func139,Tryz.ntmps139
 go_wp2_with fail
 ((with_reducible refine(HW.out _).mono ?_);rintro e w' ⟨rfl,rfl⟩)
 go_wp2_with (refine wpList_load_mid rfl 57 (.tmp 18) rfl b 6 rfl (sgL d) _ HR.out.data Tryz.underlying57 rfl info_sg ?_)
 ((with_reducible refine(HA.out _).mono ?_);rintro e w1 ⟨rfl,b1⟩)
 have HR1:=Lib.hid (HR.out.but (G:=fun _=>False) (But.of_below b1) (fun _ _ h=>h))
 have HB1:=Lib.hid (But.of_below (F:=F) b1)
 have HL:=Lib.hid (fun k hk=>HR.out.lt k hk)
 clear b1
 by_cases hE0:E=0
 ·subst hE0
  obtain⟨hv,hlt⟩:=HY.out rfl
  subst hv
  have hb0:0≤d.b+off:=by have:=HD.out.1;omega
  obtain⟨A,hA⟩:∃A,d.b+off=A:=⟨_,rfl⟩
  rw[hA]at hlt hb0 ⊢
  have HVA:=Lib.hid (show stG g d off size v=writeG g A (byteOf v) N by rw[HV.out,HEE.out,if_pos rfl,hA])
  clear hA
  go_wp2_with fail
  go_loopw [12] (fun v12 wr=>∃i:Nat,i≤N∧v12=.int .i64 i∧But (·=B) w1 wr∧RefMap wr B (4294967296+i) (writeG g A (byteOf v) i)) (fun v12 _=>N-(intOf v12).toNat)
  case atStart=>exact⟨0,by omega,rfl,But.refl _ _,HR1.out.map⟩
  case round=>
   obtain⟨i,hi,rfl,hr,hm2⟩:=hrel
   have HB:=Lib.hid hr
   have HM:=Lib.hid hm2
   have HRR:=Lib.hid (HR1.out.next hr hm2)
   clear hr hm2
   by_cases hlt2:i<N
   ·have k0:wr.cell? ⟨b,0,none⟩=some (.pointer (some ⟨p,0,none⟩)):=(cell_block HRR.out.bus 0).1
    have kp:=HRR.out.ptr
    have hp0:0≤place A i:=by unfold place;omega
    have hp1:place A i<4294967296:=by unfold place;omega
    have hi8:i<8:=by have:=HN8.out;omega
    have hk:IntKind.u32.wrap (A+IntKind.u32.wrap (i:Int))=place A i:=by rw[IntKind.wrap_u32,IntKind.wrap_u32];unfold place;omega
    obtain⟨w2,hrun,hm3,hbut⟩:=RefMap.put (w:=wr.drew) (HM.out.but (F:=fun _=>False) ((But.refl _ _).drew) (by simp)) (Nat.lt_trans (show 4294967296+i<4294967296+8 by omega) (by decide)) _ _ hp0 hp1 (byteOf_ok v i).1 (byteOf_ok v i).2
    rw[←hk]at hrun
    clear hk
    have hd:decide ((i:Int)<(N:Int))=true:=decide_eq_true (by omega)
    have HI:=Lib.hid hm3
    have HBT:=Lib.hid hbut
    clear hm3 hbut
    rcases(show i=0∨i=1∨i=2∨i=3∨i=4∨i=5∨i=6∨i=7 by omega)with rfl|rfl|rfl|rfl|rfl|rfl|rfl|rfl
    ·have hb:byteOf v 0=IntKind.u8.wrap (v):=by rw[IntKind.wrap_u8];unfold byteOf;rw[Int.pow_zero,Int.ediv_one]
     have hrun:(Instr.mapUpdate 92 (.map (some B)) (.int .u32 (IntKind.u32.wrap (A+IntKind.u32.wrap 0))) (.int .u8 (byteOf v 0))).run Tryz.prog wr.drew=.ok () w2:=hrun
     rw[hb]at hrun
     have z1:IntKind.i64.wrap 0=0:=by decide
     clear hb
     go_upto_region 8 with(fail)
     go_still_tail 16,(by kernel_rfl)
     change wpList _ _ _ _ _ wr.drew
     have kp':wr.drew.cell? ⟨p,0,none⟩=some (.map (some B)):=kp
     have k0':wr.drew.cell? ⟨b,0,none⟩=some (.pointer (some ⟨p,0,none⟩)):=k0
     have HB:=Lib.hid (show But (·=B) w1 wr.drew from HB.out.drew)
     generalize wr.drew=W at *
     go_wp2_with fail
     go_roundw
     case rel=>exact⟨1,by omega,by go_num,HB.out.trans HBT.out (fun _ _ h=>h),HI.out⟩
     case measure=>simp[intOf];try omega
    ·have hb:byteOf v 1=IntKind.u8.wrap (v/256):=by rw[IntKind.wrap_u8];rfl
     have hrun:(Instr.mapUpdate 92 (.map (some B)) (.int .u32 (IntKind.u32.wrap (A+IntKind.u32.wrap 1))) (.int .u8 (byteOf v 1))).run Tryz.prog wr.drew=.ok () w2:=hrun
     rw[hb]at hrun
     have z1:IntKind.i64.wrap 8=8:=by decide
     clear hb
     go_upto_region 8 with(fail)
     go_still_tail 16,(by kernel_rfl)
     change wpList _ _ _ _ _ wr.drew
     have kp':wr.drew.cell? ⟨p,0,none⟩=some (.map (some B)):=kp
     have k0':wr.drew.cell? ⟨b,0,none⟩=some (.pointer (some ⟨p,0,none⟩)):=k0
     have HB:=Lib.hid (show But (·=B) w1 wr.drew from HB.out.drew)
     generalize wr.drew=W at *
     go_wp2_with fail
     go_roundw
     case rel=>exact⟨2,by omega,by go_num,HB.out.trans HBT.out (fun _ _ h=>h),HI.out⟩
     case measure=>simp[intOf];try omega
    ·have hb:byteOf v 2=IntKind.u8.wrap (v/65536):=by rw[IntKind.wrap_u8];rfl
     have hrun:(Instr.mapUpdate 92 (.map (some B)) (.int .u32 (IntKind.u32.wrap (A+IntKind.u32.wrap 2))) (.int .u8 (byteOf v 2))).run Tryz.prog wr.drew=.ok () w2:=hrun
     rw[hb]at hrun
     have z1:IntKind.i64.wrap 16=16:=by decide
     clear hb
     go_upto_region 8 with(fail)
     go_still_tail 16,(by kernel_rfl)
     change wpList _ _ _ _ _ wr.drew
     have kp':wr.drew.cell? ⟨p,0,none⟩=some (.map (some B)):=kp
     have k0':wr.drew.cell? ⟨b,0,none⟩=some (.pointer (some ⟨p,0,none⟩)):=k0
     have HB:=Lib.hid (show But (·=B) w1 wr.drew from HB.out.drew)
     generalize wr.drew=W at *
     go_wp2_with fail
     go_roundw
     case rel=>exact⟨3,by omega,by go_num,HB.out.trans HBT.out (fun _ _ h=>h),HI.out⟩
     case measure=>simp[intOf];try omega
    ·have hb:byteOf v 3=IntKind.u8.wrap (v/16777216):=by rw[IntKind.wrap_u8];rfl
     have hrun:(Instr.mapUpdate 92 (.map (some B)) (.int .u32 (IntKind.u32.wrap (A+IntKind.u32.wrap 3))) (.int .u8 (byteOf v 3))).run Tryz.prog wr.drew=.ok () w2:=hrun
     rw[hb]at hrun
     have z1:IntKind.i64.wrap 24=24:=by decide
     clear hb
     go_upto_region 8 with(fail)
     go_still_tail 16,(by kernel_rfl)
     change wpList _ _ _ _ _ wr.drew
     have kp':wr.drew.cell? ⟨p,0,none⟩=some (.map (some B)):=kp
     have k0':wr.drew.cell? ⟨b,0,none⟩=some (.pointer (some ⟨p,0,none⟩)):=k0
     have HB:=Lib.hid (show But (·=B) w1 wr.drew from HB.out.drew)
     generalize wr.drew=W at *
     go_wp2_with fail
     go_roundw
     case rel=>exact⟨4,by omega,by go_num,HB.out.trans HBT.out (fun _ _ h=>h),HI.out⟩
     case measure=>simp[intOf];try omega
    ·have hb:byteOf v 4=IntKind.u8.wrap (v/4294967296):=by rw[IntKind.wrap_u8];rfl
     have hrun:(Instr.mapUpdate 92 (.map (some B)) (.int .u32 (IntKind.u32.wrap (A+IntKind.u32.wrap 4))) (.int .u8 (byteOf v 4))).run Tryz.prog wr.drew=.ok () w2:=hrun
     rw[hb]at hrun
     have z1:IntKind.i64.wrap 32=32:=by decide
     clear hb
     go_upto_region 8 with(fail)
     go_still_tail 16,(by kernel_rfl)
     change wpList _ _ _ _ _ wr.drew
     have kp':wr.drew.cell? ⟨p,0,none⟩=some (.map (some B)):=kp
     have k0':wr.drew.cell? ⟨b,0,none⟩=some (.pointer (some ⟨p,0,none⟩)):=k0
     have HB:=Lib.hid (show But (·=B) w1 wr.drew from HB.out.drew)
     generalize wr.drew=W at *
     go_wp2_with fail
     go_roundw
     case rel=>exact⟨5,by omega,by go_num,HB.out.trans HBT.out (fun _ _ h=>h),HI.out⟩
     case measure=>simp[intOf];try omega
    ·have hb:byteOf v 5=IntKind.u8.wrap (v/1099511627776):=by rw[IntKind.wrap_u8];rfl
     have hrun:(Instr.mapUpdate 92 (.map (some B)) (.int .u32 (IntKind.u32.wrap (A+IntKind.u32.wrap 5))) (.int .u8 (byteOf v 5))).run Tryz.prog wr.drew=.ok () w2:=hrun
     rw[hb]at hrun
     have z1:IntKind.i64.wrap 40=40:=by decide
     clear hb
     go_upto_region 8 with(fail)
     go_still_tail 16,(by kernel_rfl)
     change wpList _ _ _ _ _ wr.drew
     have kp':wr.drew.cell? ⟨p,0,none⟩=some (.map (some B)):=kp
     have k0':wr.drew.cell? ⟨b,0,none⟩=some (.pointer (some ⟨p,0,none⟩)):=k0
     have HB:=Lib.hid (show But (·=B) w1 wr.drew from HB.out.drew)
     generalize wr.drew=W at *
     go_wp2_with fail
     go_roundw
     case rel=>exact⟨6,by omega,by go_num,HB.out.trans HBT.out (fun _ _ h=>h),HI.out⟩
     case measure=>simp[intOf];try omega
    ·have hb:byteOf v 6=IntKind.u8.wrap (v/281474976710656):=by rw[IntKind.wrap_u8];rfl
     have hrun:(Instr.mapUpdate 92 (.map (some B)) (.int .u32 (IntKind.u32.wrap (A+IntKind.u32.wrap 6))) (.int .u8 (byteOf v 6))).run Tryz.prog wr.drew=.ok () w2:=hrun
     rw[hb]at hrun
     have z1:IntKind.i64.wrap 48=48:=by decide
     clear hb
     go_upto_region 8 with(fail)
     go_still_tail 16,(by kernel_rfl)
     change wpList _ _ _ _ _ wr.drew
     have kp':wr.drew.cell? ⟨p,0,none⟩=some (.map (some B)):=kp
     have k0':wr.drew.cell? ⟨b,0,none⟩=some (.pointer (some ⟨p,0,none⟩)):=k0
     have HB:=Lib.hid (show But (·=B) w1 wr.drew from HB.out.drew)
     generalize wr.drew=W at *
     go_wp2_with fail
     go_roundw
     case rel=>exact⟨7,by omega,by go_num,HB.out.trans HBT.out (fun _ _ h=>h),HI.out⟩
     case measure=>simp[intOf];try omega
    ·have hb:byteOf v 7=IntKind.u8.wrap (v/72057594037927936):=by rw[IntKind.wrap_u8];rfl
     have hrun:(Instr.mapUpdate 92 (.map (some B)) (.int .u32 (IntKind.u32.wrap (A+IntKind.u32.wrap 7))) (.int .u8 (byteOf v 7))).run Tryz.prog wr.drew=.ok () w2:=hrun
     rw[hb]at hrun
     have z1:IntKind.i64.wrap 56=56:=by decide
     clear hb
     go_upto_region 8 with(fail)
     go_still_tail 16,(by kernel_rfl)
     change wpList _ _ _ _ _ wr.drew
     have kp':wr.drew.cell? ⟨p,0,none⟩=some (.map (some B)):=kp
     have k0':wr.drew.cell? ⟨b,0,none⟩=some (.pointer (some ⟨p,0,none⟩)):=k0
     have HB:=Lib.hid (show But (·=B) w1 wr.drew from HB.out.drew)
     generalize wr.drew=W at *
     go_wp2_with fail
     go_roundw
     case rel=>exact⟨8,by omega,by go_num,HB.out.trans HBT.out (fun _ _ h=>h),HI.out⟩
     case measure=>simp[intOf];try omega
   ·obtain rfl:i=N:=by omega
    have hd:decide ((i:Int)<(i:Int))=false:=by simp
    go_wp2_with fail
    go_ret
    exact⟨by rw[HEE.out];rfl,⟨p,B,by rw[HVA.out];exact HRR.out⟩,HB1.out.trans HB.out (fun k _ hk=>(HR1.out.own k).2 (.inr (.inr hk)))⟩
 ·have e0:(E==0)=false:=by simpa using hE0
  have HVA:=Lib.hid (show stG g d off size v=g by rw[HV.out,HEE.out,if_neg hE0])
  clear hE0
  go_wp2_with fail
  go_ret
  exact⟨by rw[HEE.out];rfl,⟨p,B,by rw[HVA.out];exact HR1.out⟩,HB1.out⟩
end
section
open Go.ChangeShapes Go.WideShapes Go.ChangeAt Go.RowKit
set_option maxRecDepth 100000
def regN(s:Sta)(i:Int):Int:=if 0≤i∧i≤7 then s.r i.toNat else 0
def ofF(s:Sta)(o:Opd):Int:=(o.disp+regN s o.base+regN s o.index*o.scale)%4294967296
theorem ofF_lo(s:Sta)(o:Opd):0≤ofF s o:=by unfold ofF;omega
theorem ofF_hi(s:Sta)(o:Opd):ofF s o<4294967296:=by unfold ofF;omega
theorem mul_wrap(a b:Int):a*(b%4294967296)%4294967296=a*b%4294967296:=by
 rw[Int.mul_emod,Int.emod_emod,←Int.mul_emod]
theorem add_wrap(a b:Int):(a+b%4294967296)%4294967296=(a+b)%4294967296:=by omega
theorem wrap_add(a b:Int):(a%4294967296+b)%4294967296=(a+b)%4294967296:=by omega
theorem of_walk(d x c:Int):(d+x*(c%4294967296)%4294967296)%4294967296=(d+x*c)%4294967296:=by
 rw[mul_wrap,add_wrap]
theorem of_walk2(d y x c:Int):((d+y)%4294967296+x*(c%4294967296)%4294967296)%4294967296=(d+y+x*c)%4294967296:=by
 rw[of_walk,wrap_add]
theorem regN_lo{s:Sta}(hs:StaOk s)(i:Int):0≤regN s i∧regN s i<4294967296:=by
 unfold regN
 split
 ·exact hs.r _ (by omega)
 ·omega
theorem rng_two{w u:World}{s:Sta}{o:Opd}{W:World}(hW:W=(w.alloc (.cells (staL s).toArray 29)).alloc (.cells (opL' o).toArray 32))(hu:Below W.heap.size W u):u.rangeAt w.heap.size 0 (staL s)∧u.rangeAt (w.heap.size+1) 0 (opL' o):=by
 obtain⟨h1,h2,_⟩:=heap_two hW
 exact⟨range_in13 ((hu.block _ (Array.getElem?_eq_some_iff.1 h1).1).trans h1) 0 _ rfl,range_in13 ((hu.block _ (Array.getElem?_eq_some_iff.1 h2).1).trans h2) 0 _ rfl⟩
end
section
open Go.ChangeShapes Go.WideShapes Go.ChangeAt Go.RowKit
set_option maxRecDepth 100000
structure Ins where
 op:Int
 cond:Int
 size:Int
 a:Opd
 b:Opd
 c:Int
 rep:Bool
 len:Int
 deriving DecidableEq
def insC(i:Ins):Array Value:=#[.int .i64 i.op,.int .i64 i.cond,.int .i64 i.size,.int .i64 i.a.kind,.int .i64 i.a.reg,.int .i64 i.a.base,.int .i64 i.a.index,.int .i64 i.a.scale,.int .u32 i.a.disp,.int .i64 i.b.kind,.int .i64 i.b.reg,.int .i64 i.b.base,.int .i64 i.b.index,.int .i64 i.b.scale,.int .u32 i.b.disp,.int .u32 i.c,.bool i.rep,.int .i64 i.len]
def insV(i:Ins):Value:=.agg (insC i)
def zeroO:Opd:=⟨0,0,0,0,0,0⟩
def noneO:Opd:=⟨0,0,-1,-1,1,0⟩
def zeroI:Ins:=⟨0,0,0,zeroO,zeroO,0,false,0⟩
structure Mst where
 l:List Opd
 c:Int
 at_:Nat
def needF(size:Int)(c:UInt8):Nat:=if c=73 then(if size=4 then 4 else 1)else if c=98∨c=66 then 1 else if c=119 then 2 else if c=105∨c=76∨c=109 then 4 else 0
def valF(need:Nat)(c:UInt8)(bs:Nat→Int)(k:Nat):Int:=if need=1 then(if c=73 then bs k else sx9 (bs k))else if need=2 then bs k+bs (k+1)*256 else if need=4 then four9 (bs k) (bs (k+1)) (bs (k+2)) (bs (k+3))else 0
def pushF(f:Frm)(rm:Opd)(reg v:Int)(c:UInt8):List Opd:=
 if c=69 then[if f.size=1 then turnO rm 2 else rm]else if c=101 then[rm]else if c=89 then[turnO rm 5]else if c=71 then[smallO f.size reg]else if c=103 then[regO 1 reg]
 else if c=88 then[regO 5 reg]else if c=114 then[smallO f.size f.c]else if c=97 then[smallO f.size 0]else if c=49 then[numO 1]else if c=99 then[regO 2 1]else if c=109 then[⟨3,0,-1,-1,1,v⟩]
 else if c=76∨c=66 then[]else if c=73∨c=98∨c=119∨c=105 then[numO v]else[]
def stepM(f:Frm)(rm:Opd)(reg:Int)(L:Nat)(bs:Nat→Int)(s:Mst)(c:UInt8):Option Mst:=
 if L<s.at_+needF f.size c then none
 else some ⟨s.l++pushF f rm reg (valF (needF f.size c) c bs s.at_) c,if c=76∨c=66 then valF (needF f.size c) c bs s.at_ else s.c,s.at_+needF f.size c⟩
def runM(f:Frm)(rm:Opd)(reg:Int)(L:Nat)(bs:Nat→Int):List UInt8→Mst→Option Mst
 |[],s=>some s
 |c :: l,s=>(stepM f rm reg L bs s c).bind (runM f rm reg L bs l)
theorem runM_append(f:Frm)(rm:Opd)(reg:Int)(L:Nat)(bs:Nat→Int)(l m:List UInt8)(s:Mst):runM f rm reg L bs (l++m) s=(runM f rm reg L bs l s).bind (runM f rm reg L bs m):=by
 induction l generalizing s with
 |nil=>rfl
 |cons c l ih=>
  show(stepM f rm reg L bs s c).bind _=((stepM f rm reg L bs s c).bind _).bind _
  cases stepM f rm reg L bs s c with
  |none=>rfl
  |some t=>exact ih t
theorem runM_snoc(f:Frm)(rm:Opd)(reg:Int)(L:Nat)(bs:Nat→Int)(l:List UInt8)(k:Nat)(h:k<l.length)(s t:Mst)(hr:runM f rm reg L bs (l.take k) s=some t):runM f rm reg L bs (l.take (k+1)) s=stepM f rm reg L bs t l[k]:=by
 rw[List.take_succ_eq_append_getElem h,runM_append,hr]
 show(stepM f rm reg L bs t l[k]).bind (runM f rm reg L bs [])=_
 cases stepM f rm reg L bs t l[k]<;>rfl
theorem runM_none(f:Frm)(rm:Opd)(reg:Int)(L:Nat)(bs:Nat→Int)(l:List UInt8)(k:Nat)(h:k<l.length)(s t:Mst)(hr:runM f rm reg L bs (l.take k) s=some t)(hn:stepM f rm reg L bs t l[k]=none):runM f rm reg L bs l s=none:=by
 have h1:=runM_snoc f rm reg L bs l k h s t hr
 rw[hn]at h1
 have:l=l.take (k+1)++l.drop (k+1):=(List.take_append_drop _ _).symm
 rw[this,runM_append,h1]
 rfl
def madeF(i:Ins)(f:Frm)(rm:Opd)(reg:Int)(L:Nat)(bs:Nat→Int)(k:Nat):Ins×Int:=
 match runM f rm reg L bs f.how ⟨[],i.c,k⟩with
 |none=>(zeroI,21)
 |some s=>({ i with a:=s.l.getD 0 i.a,b:=s.l.getD 1 i.b,c:=s.c,len:=s.at_ },0)
def insR(x:Ins×Int):Value:=.tuple #[insV x.1,.int .i64 x.2]
end
section
open Go.ChangeShapes Go.WideShapes Go.ChangeAt Go.RowKit
set_option maxRecDepth 100000
theorem info_ins:(Tryz.prog.info? 34).map (·.size)=some 18:=by kernel_rfl
def insL(i:Ins):List Value:=[.int .i64 i.op,.int .i64 i.cond,.int .i64 i.size,.int .i64 i.a.kind,.int .i64 i.a.reg,.int .i64 i.a.base,.int .i64 i.a.index,.int .i64 i.a.scale,.int .u32 i.a.disp,.int .i64 i.b.kind,.int .i64 i.b.reg,.int .i64 i.b.base,.int .i64 i.b.index,.int .i64 i.b.scale,.int .u32 i.b.disp,.int .u32 i.c,.bool i.rep,.int .i64 i.len]
def zeroA:Array Value:=#[.int .i64 0,.int .i64 0,.int .i64 0,.int .i64 0,.int .i64 0,.int .i64 0,.int .i64 0,.int .i64 0,.int .u32 0,.int .i64 0,.int .i64 0,.int .i64 0,.int .i64 0,.int .i64 0,.int .u32 0,.int .u32 0,.bool false,.int .i64 0]
theorem ins_one(i:Ins):(insL i).toArray.all (·.oneCell')=true:=by simp[insL,Value.oneCell']
theorem load_ins{i:Ins}{R:Nat}{w:World}(h:w.rangeAt R 0 (insL i)):(loadVar 34 ⟨R,0,none⟩).run Tryz.prog w=.ok (insV i) w:=load_range (P:=Tryz.prog) (cs:=insL i) 34 _ Tryz.underlying34 rfl info_ins h
theorem store_ins{ops:Array Oper}{rest:List Oper}{op:Oper}{a:Act}{w:World}{Q:Exit→Act→World→Prop}(hgd:op.guard=none)(x y:Operand)(ho:op.op=.store 34 x y)
  (R:Nat) (hx:a.eval x=.pointer (some ⟨R,0,none⟩)) (q:Ins) (hy:a.eval y=insV q) (ht:w.there R 0 18)
  (hK:∀Y,Y=w.setCells R 0 (insL q)→(loadVar 34 ⟨R,0,none⟩).run Tryz.prog Y=.ok (insV q) Y→wpList Tryz.prog ops Q rest (a.put op.dst undef) Y):wpList Tryz.prog ops Q (op :: rest) a w:=
 store_row hgd _ x y ho R hx (insL q) hy _ Tryz.underlying34 rfl info_ins (ins_one q) ht hK
end
section
open Go.ChangeShapes Go.WideShapes Go.ChangeAt Go.RowKit
set_option maxRecDepth 100000
def cutA(ad:Addr)(cap s:Nat):Addr:=if cap=s then ad else ad.add s
theorem slice_tail(ad:Addr)(L cap k:Nat)(ks:Int)(e1:ks=k)(h1:k≤L)(w:World):
  (Instr.sliceAt 37 (.slice (some ad) L cap) (some (.int .i64 ks)) none none).run Tryz.prog w=.ok (.slice (some (cutA ad cap k)) (L-k) (cap-k)) w:=by
 have hE:Tryz.prog.elem 37=5:=by kernel_rfl
 have hz:(sizeOf (Tryz.prog.elem 37)).run Tryz.prog w=.ok 1 w:=by kernel_rfl
 have hu:Tryz.prog.underlying 37=some (.slice (Tryz.prog.elem 37)):=by rw[hE];exact Tryz.underlying37
 subst e1
 rw[run_sliceAt_slice w _ _ _ _ _ hu,run_slice_l w _ _ _ _ hu .i64 (k:Int) (by omega) (by omega),hz]
 simp only[Result.andThen,sliced,Option.map_some,Nat.mul_one,Int.toNat_natCast]
 unfold cutA
 by_cases hk:cap=k
 ·rw[if_pos hk,if_pos (by omega)]
 ·rw[if_neg hk,if_neg (by omega)]
theorem slc_tail{w:World}{ad:Addr}{M cap:Nat}{bs:Nat→Int}(hc:∀i,i<M→w.cell? (ad.add i)=some (.int .u8 (bs i)))(hl:M≤cap)(k:Nat)(hk:k≤M):Slc .u8 w (.slice (some (cutA ad cap k)) (M-k) (cap-k)) (M-k) (fun i=>bs (k+i)):=by
 refine .inr ⟨_,_,rfl,by omega,fun i hi=>?_⟩
 rw[←hc (k+i) (by omega)]
 unfold cutA
 rw[if_neg (by omega)]
 congr 1
 unfold Addr.add
 by_cases h0:k=0
 ·subst h0;simp
 ·by_cases hi0:i=0
  ·subst hi0;simp[h0]
  ·rw[if_neg h0,if_neg hi0,if_neg (by omega)];simp[Nat.add_assoc]
theorem range_but{F:Nat→Prop}{w w':World}{R o:Nat}{cs:List Value}(h:But F w w')(hn:¬F R)(hr:w.rangeAt R o cs):w'.rangeAt R o cs:=fun j v hv=>h.cell (hr j v hv) hn
theorem range_alloc{w:World}{R o:Nat}{cs:List Value}(x:Obj)(hr:w.rangeAt R o cs)(hR:R<w.heap.size):(w.alloc x).rangeAt R o cs:=fun j v hv=>(World.cell?_alloc_lt w x ⟨R,o+j,none⟩ hR).trans (hr j v hv)
theorem heap_top0(w:World)(o:Obj)(B:Nat)(h:B=w.heap.size):(w.alloc o).heap[B]?=some o:=by subst h;show(w.heap.push o)[w.heap.size]?=_;simp
theorem opd_one(o:Opd):(opL' o).toArray.all (·.oneCell')=true:=by simp[opL',Value.oneCell']
theorem store_mid{P:Program}{ops:Array Oper}{rest:List Oper}{op:Oper}{a:Act}{w:World}{Q:Exit→Act→World→Prop}(hgd:op.guard=none)(T:TypeId)(x y:Operand)(ho:op.op=.store T x y)
  (R o:Nat) (hx:a.eval x=.pointer (some ⟨R,o,none⟩)) (C:List Value) (hy:a.eval y=.agg C.toArray) (hi:(P.info? T).map (·.size)=some C.length) (h1:C.toArray.all (·.oneCell')=true) (ht:w.there R o C.length)
  (hK:∀Y,Y=w.setCells R o C→wpList P ops Q rest (a.put op.dst undef) Y):wpList P ops Q (op :: rest) a w:=by
 refine wpList_store_mid hgd T x y ho R o C.toArray hx hy (by simpa using ht) (by simpa using hi) h1 ?_
 exact hK _ rfl
end
section
open Go.ChangeShapes Go.WideShapes Go.ChangeAt Go.RowKit
set_option maxRecDepth 100000
theorem range_below{w w':World}(hb:Below w.heap.size w w'){B o:Nat}{cs:List Value}(h:w.rangeAt B o cs):w'.rangeAt B o cs:=range_but (F:=fun _=>False) (But.of_below hb) (fun h=>h) h
structure Lies (w:World) (l:List (Nat×List Value)) (u:World):Prop where
 below:Below w.heap.size w u
 all:∀p∈l,p.1<u.heap.size∧u.rangeAt p.1 0 p.2
theorem Lies.none{w u:World}(h:Below w.heap.size w u):Lies w [] u:=⟨h,fun p hp=>by cases hp⟩
theorem Lies.on{w u u':World}{l:List (Nat×List Value)}(h:Lies w l u)(hb:Below u.heap.size u u'):Lies w l u':=
 ⟨below_step h.below hb,fun p hp=>⟨Nat.lt_of_lt_of_le (h.all p hp).1 hb.size,range_below hb (h.all p hp).2⟩⟩
theorem Lies.drew{w u:World}{l:List (Nat×List Value)}(h:Lies w l u):Lies w l { u with drawn:=u.drawn+1 }:=⟨h.below.drew,fun p hp=>⟨(h.all p hp).1,(h.all p hp).2⟩⟩
theorem Lies.alloc{w u:World}{l:List (Nat×List Value)}(h:Lies w l u)(o:Obj):Lies w l (u.alloc o):=h.on (below_last (Below.refl _ _) _)
theorem Lies.put{w u:World}{l:List (Nat×List Value)}(h:Lies w l u)(C:Array Value)(T:TypeId)(cs:List Value)(hC:cs.length≤C.size)(B:Nat)(hB:B=u.heap.size)(Y:World)(hY:Y=(u.alloc (.cells C T)).setCells B 0 cs):Lies w ((B,cs) :: l) Y:=by
 subst hB hY
 refine⟨below_setCells h.below.size _ _ _ (below_last h.below _),fun p hp=>?_⟩
 rcases List.mem_cons.1 hp with rfl|hp
 ·exact⟨by rw[setCells_size];simp,World.rangeAt_setCells_same _ _ _ _ (there_alloc_new u C T _ hC)⟩
 ·obtain⟨h1,h2⟩:=h.all p hp
  exact⟨by rw[setCells_size];simp;omega,World.rangeAt_setCells_apart (World.rangeAt_alloc h2 _) _ _ _ (.inl (by omega))⟩
theorem Lies.lit{w u:World}{l:List (Nat×List Value)}(h:Lies w l u)(C:Array Value)(T:TypeId)(B:Nat)(hB:B=u.heap.size):Lies w ((B,C.toList) :: l) (u.alloc (.cells C T)):=by
 subst hB
 refine⟨below_last h.below _,fun p hp=>?_⟩
 rcases List.mem_cons.1 hp with rfl|hp
 ·refine⟨by simp,fun j v hj=>?_⟩
  rw[Nat.zero_add,World.cell?_alloc_new]
  simpa using hj
 ·obtain⟨h1,h2⟩:=h.all p hp
  exact⟨by simp;omega,World.rangeAt_alloc h2 _⟩
theorem Lies.at_{w u:World}{l:List (Nat×List Value)}(h:Lies w l u)(B:Nat)(cs:List Value)(hm:(B,cs)∈l):u.rangeAt B 0 cs:=(h.all _ hm).2
theorem range_part{u:World}{B:Nat}{cs:List Value}(h:u.rangeAt B 0 cs)(o:Nat)(l:List Value)(hl:(cs.drop o).take l.length=l):u.rangeAt B o l:=fun i v hi=>by
 have hlt:=(List.getElem?_eq_some_iff.1 hi).1
 rw[←hl]at hi
 have h2:=h (o+i) v (by simpa[List.getElem?_take,List.getElem?_drop,hlt]using hi)
 rwa[Nat.zero_add]at h2
end
section
open Go.ChangeShapes Go.WideShapes Go.ChangeAt Go.RowKit
set_option maxRecDepth 100000
def ldA(g:Int→Int)(d:Sg)(s:Sta)(o:Opd)(size:Int):Int:=if o.kind=3 then ldV g d (ofF s o) size else getF s o
def ldO(d:Sg)(s:Sta)(o:Opd)(size:Int):Bool:=if o.kind=3 then ldE d (ofF s o) size==0 else true
def putS(s:Sta)(o:Opd)(v:Int):Sta:=if o.kind=3 then s else setF s o v
def putO(d:Sg)(a:Sta)(o:Opd)(size:Int):Bool:=if o.kind=3 then stE d (ofF a o) size==0 else true
def putG(g:Int→Int)(d:Sg)(a:Sta)(o:Opd)(size v:Int):Int→Int:=if o.kind=3 then stG g d (ofF a o) size v else g
set_option maxHeartbeats 8000000
theorem rof_any(s:Sta)(o:Opd)(hs:StaOk s)(d0:0≤o.disp)(d1:o.disp<4294967296)(w:World):Calls Tryz.prog 79 #[staV s,opV o] w fun e w'=>e=.returned (.int .u32 (ofF s o))∧Below w.heap.size w w':=by
 obtain⟨k,r,b,i,c,d⟩:=o
 dsimp only at d0 d1
 have HS:=Lib.hid hs
 clear hs
 obtain⟨B,hB⟩:∃B,decide (0≤b∧b≤7)=B:=⟨_,rfl⟩
 have HINB:=Lib.hid (in13_is hB)
 obtain⟨I,hI⟩:∃I,decide (0≤i∧i≤7)=I:=⟨_,rfl⟩
 have HINI:=Lib.hid (in13_is hI)
 have HB:=Lib.hid hB
 have HI:=Lib.hid hI
 obtain⟨V,hV⟩:∃V,ofF s ⟨k,r,b,i,c,d⟩=V:=⟨_,rfl⟩
 rw[hV]
 have HV:=Lib.hid (show(d+regN s b+regN s i*c)%4294967296=V from hV)
 clear hB hI hV
 unfold staV opV
 go_enter Tryz.func79,Tryz.ntmps79
 go_upto_region 1 with fail
 obtain⟨W,hW⟩:∃W,W=(w.alloc (.cells (staL s).toArray 29)).alloc (.cells #[.int .i64 k,.int .i64 r,.int .i64 b,.int .i64 i,.int .i64 c,.int .u32 d] 32):=⟨_,rfl⟩
 rw[←hW]
 obtain⟨hS,hO,hbel⟩:=heap_two hW
 have HBEL:=Lib.hid hbel
 have k2:W.cell? ⟨w.heap.size+1,2,none⟩=some (.int .i64 b):=(cell_block hO 2).1
 have k3:W.cell? ⟨w.heap.size+1,3,none⟩=some (.int .i64 i):=(cell_block hO 3).1
 have k4:W.cell? ⟨w.heap.size+1,4,none⟩=some (.int .i64 c):=(cell_block hO 4).1
 have k5:W.cell? ⟨w.heap.size+1,5,none⟩=some (.int .u32 d):=(cell_block hO 5).1
 have HST:=Lib.hid hS
 clear hW hS hO hbel
 go_wp2_with fail
 ((with_reducible refine(HINB.out _).mono ?_);rintro e w' ⟨rfl,rfl⟩)
 have hcw:=IntKind.wrap_u32' c
 cases B with
 |false=>
  have HRB:=Lib.hid (show regN s b=0 from if_neg (of_decide_eq_false HB.out))
  go_wp2_with fail
  ((with_reducible refine(HINI.out _).mono ?_);rintro e w' ⟨rfl,rfl⟩)
  cases I with
  |false=>
   have HRI:=Lib.hid (show regN s i=0 from if_neg (of_decide_eq_false HI.out))
   go_wp2_with fail
   go_ret
   exact⟨by rw[←HV.out,HRB.out,HRI.out,show(d+0+0*c)%4294967296=d by omega];rfl,HBEL.out⟩
  |true=>
   have hi:=of_decide_eq_true HI.out
   have HRI:=Lib.hid (show regN s i=s.r i.toNat from if_pos hi)
   obtain⟨m,rfl⟩:=Int.eq_ofNat_of_zero_le hi.1
   have hm:m<8:=by omega
   have hm8:(m:Int)<8:=by omega
   have hc:W.cell? ⟨w.heap.size,m,none⟩=some (.int .u32 (s.r m)):=(cell_block HST.out m).1.trans (by simpa using sta_r s m hm)
   obtain⟨x,hx⟩:∃x,s.r m=x:=⟨_,rfl⟩
   have HRI:=Lib.hid (show regN s (m:Int)=x from HRI.out.trans hx)
   rw[hx]at hc
   clear hx hi
   go_wp2_with fail
   go_quiet (fail)
   go_wp2_with fail
   go_ret
   exact⟨by rw[←HV.out,HRB.out,HRI.out,Int.add_zero,←of_walk];rfl,below_dr HBEL.out _⟩
 |true=>
  have hb:=of_decide_eq_true HB.out
  have HRB:=Lib.hid (show regN s b=s.r b.toNat from if_pos hb)
  obtain⟨n,rfl⟩:=Int.eq_ofNat_of_zero_le hb.1
  have hn:n<8:=by omega
  have hn8:(n:Int)<8:=by omega
  have hcb:W.cell? ⟨w.heap.size,n,none⟩=some (.int .u32 (s.r n)):=(cell_block HST.out n).1.trans (by simpa using sta_r s n hn)
  obtain⟨y,hy⟩:∃y,s.r n=y:=⟨_,rfl⟩
  have HRB:=Lib.hid (show regN s (n:Int)=y from HRB.out.trans hy)
  rw[hy]at hcb
  clear hy hb
  go_wp2_with fail
  ((with_reducible refine(HINI.out _).mono ?_);rintro e w' ⟨rfl,rfl⟩)
  cases I with
  |false=>
   have HRI:=Lib.hid (show regN s i=0 from if_neg (of_decide_eq_false HI.out))
   go_wp2_with fail
   go_ret
   exact⟨by rw[←HV.out,HRB.out,HRI.out,show(d+y+0*c)%4294967296=(d+y)%4294967296 by omega];rfl,HBEL.out⟩
  |true=>
   have hi:=of_decide_eq_true HI.out
   have HRI:=Lib.hid (show regN s i=s.r i.toNat from if_pos hi)
   obtain⟨m,rfl⟩:=Int.eq_ofNat_of_zero_le hi.1
   have hm:m<8:=by omega
   have hm8:(m:Int)<8:=by omega
   have hc:W.cell? ⟨w.heap.size,m,none⟩=some (.int .u32 (s.r m)):=(cell_block HST.out m).1.trans (by simpa using sta_r s m hm)
   obtain⟨x,hx⟩:∃x,s.r m=x:=⟨_,rfl⟩
   have HRI:=Lib.hid (show regN s (m:Int)=x from HRI.out.trans hx)
   rw[hx]at hc
   clear hx hi
   go_wp2_with fail
   go_quiet (fail)
   go_wp2_with fail
   go_ret
   exact⟨by rw[←HV.out,HRB.out,HRI.out,←of_walk2];rfl,below_dr HBEL.out _⟩
theorem rload13_any(rb:Nat)(R:Nat→Prop)(g:Int→Int)(cc dd:Sg)(s:Sta)(o:Opd)(size:Int)(hs:StaOk s)(d0:0≤o.disp)(d1:o.disp<4294967296)(w:World)(hR:RBus w rb R g cc dd):
  Calls Tryz.prog 81 #[.pointer (some ⟨rb,0,none⟩),staV s,opV o,.int .i64 size] w fun e w'=>e=.returned (.tuple #[.int .u64 (ldA g dd s o size),.bool (ldO dd s o size)])∧Below w.heap.size w w':=by
 have HR:=Lib.hid hR
 have HOF:=Lib.hid (fun u=>rof_any s o hs d0 d1 u)
 have HGE:=Lib.hid (fun u=>rget_any s o hs d0 d1 u)
 have hlo:=ofF_lo s o
 have hhi:=ofF_hi s o
 obtain⟨A,hA⟩:∃A,ofF s o=A:=⟨_,rfl⟩
 have HV:=Lib.hid (show ldA g dd s o size=if o.kind=3 then ldV g dd A size else getF s o by rw[←hA];rfl)
 have HO:=Lib.hid (show ldO dd s o size=if o.kind=3 then ldE dd A size==0 else true by rw[←hA];rfl)
 rw[hA]at HOF hlo hhi
 obtain⟨G,hG⟩:∃G,getF s o=G:=⟨_,rfl⟩
 rw[hG]at HGE HV
 obtain⟨k,r,b,i,c,d⟩:=o
 dsimp only at d0 d1 HV HO
 rw[show staV s=.agg (staL s).toArray from rfl,show opV (⟨k,r,b,i,c,d⟩:Opd)=.agg (opL' ⟨k,r,b,i,c,d⟩).toArray from rfl]at HOF HGE
 clear hs hA hG hR
 unfold staV opV
 go_enter Tryz.func81,Tryz.ntmps81
 go_upto_region 1 with fail
 obtain⟨W,hW⟩:∃W,W=(w.alloc (.cells (staL s).toArray 29)).alloc (.cells #[.int .i64 k,.int .i64 r,.int .i64 b,.int .i64 i,.int .i64 c,.int .u32 d] 32):=⟨_,rfl⟩
 rw[←hW]
 obtain⟨hS,hO,hbel⟩:=heap_two hW
 have HBEL:=Lib.hid hbel
 have HRW:=Lib.hid (fun u hu=>rng_two (o:=⟨k,r,b,i,c,d⟩) hW (u:=u) hu)
 have k0:W.cell? ⟨w.heap.size+1,0,none⟩=some (.int .i64 k):=(cell_block hO 0).1
 have HR:=Lib.hid (HR.out.below hbel)
 clear hW hS hO hbel
 by_cases hk:k=3
 ·subst hk
  have HV:=Lib.hid (show ldA g dd s ⟨3,r,b,i,c,d⟩ size=ldV g dd A size from HV.out.trans (if_pos rfl))
  have HO:=Lib.hid (show ldO dd s ⟨3,r,b,i,c,d⟩ size=(ldE dd A size==0)from HO.out.trans (if_pos rfl))
  go_wp2_with (first
   |(refine wpList_load_mid rfl 29 (.tmp 5) rfl w.heap.size 0 rfl (staL s) _ (HRW.out _ (Below.refl _ _)).1 Tryz.underlying29 rfl info_sta ?_)
   |(refine wpList_load_mid rfl 32 (.tmp 6) rfl (w.heap.size+1) 0 rfl (opL' ⟨3,r,b,i,c,d⟩) _ (HRW.out _ (Below.refl _ _)).2 Tryz.underlying32 rfl info_opd1 ?_))
  ((with_reducible refine(HOF.out _).mono ?_);rintro e w1 ⟨rfl,b1⟩)
  have HB1:=Lib.hid b1
  have HR:=Lib.hid (HR.out.below b1)
  clear b1
  go_wp2_with fail
  ((with_reducible refine(rbload_any rb R g cc dd A size hlo hhi _ HR.out).mono ?_);rintro e w2 ⟨rfl,b2⟩)
  have HB2:=Lib.hid b2
  clear b2
  obtain⟨E,hE⟩:∃E,ldE dd A size=E:=⟨_,rfl⟩
  obtain⟨X,hX⟩:∃X,ldV g dd A size=X:=⟨_,rfl⟩
  have HV:=Lib.hid (HV.out.trans hX)
  rw[hE]at HO ⊢
  rw[hX]
  clear hE hX
  go_wp2_with fail
  go_ret2
  exact⟨by rw[HV.out,HO.out];rfl,HBEL.out.trans ((HB1.out.trans (HB2.out.mono HB1.out.size)).mono HBEL.out.size)⟩
 ·have ek:(k != 3)=true:=by simpa using hk
  have ek':(k==3)=false:=by simpa using hk
  have HV:=Lib.hid (show ldA g dd s ⟨k,r,b,i,c,d⟩ size=G from HV.out.trans (if_neg hk))
  have HO:=Lib.hid (show ldO dd s ⟨k,r,b,i,c,d⟩ size=true from HO.out.trans (if_neg hk))
  clear hk
  go_wp2_with (first
   |(refine wpList_load_mid rfl 29 (.tmp 5) rfl w.heap.size 0 rfl (staL s) _ (HRW.out _ (Below.refl _ _)).1 Tryz.underlying29 rfl info_sta ?_)
   |(refine wpList_load_mid rfl 32 (.tmp 6) rfl (w.heap.size+1) 0 rfl (opL' ⟨k,r,b,i,c,d⟩) _ (HRW.out _ (Below.refl _ _)).2 Tryz.underlying32 rfl info_opd1 ?_))
  ((with_reducible refine(HGE.out _).mono ?_);rintro e w1 ⟨rfl,b1⟩)
  have HB1:=Lib.hid b1
  clear b1
  go_wp2_with fail
  go_ret2
  exact⟨by rw[HV.out,HO.out];rfl,HBEL.out.trans (HB1.out.mono HBEL.out.size)⟩
end
end Go.Proofs.YtmdncgfheeijaaaGreat
