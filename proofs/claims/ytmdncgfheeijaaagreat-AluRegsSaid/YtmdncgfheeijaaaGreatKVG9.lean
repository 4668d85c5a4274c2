import Derived.Deep.DeepCutAuto
import Derived.Deep.RegionLaw
import Derived.Test.YtmdncgfheeijaaaGreatKVG8
namespace Go.Proofs.YtmdncgfheeijaaaGreat
section
open Go.ChangeShapes Go.WideShapes Go.ChangeAt Go.RowKit Go.Maps Go.Deep
set_option maxRecDepth 100000
set_option maxHeartbeats 2000000
theorem mwrite0_any(p:Nat)(F:Nat→Prop)(g:Int→Int)(pg:Int→Bool)(pt:Int→Option Nat)(B:Nat)(D:DataW Unit)(a:Int)(v:Value)(L:Nat)(bs:Nat→Int)(a0:0≤a)(a1:a<4294967296)(hb:∀i,0≤bs i∧bs i<256)(w:World)(hm:PAt w p F g pg pt B D)(hs:Slc .u8 w v L bs)(hv:0<L→∀k,v.ownBlock=some k→¬F k):
  Calls Tryz.prog 35 #[.pointer (some ⟨p,0,none⟩),.int .u32 a,v] w fun e w'=>∃F' pt' D',e=.returned (.tuple #[])∧(∀k,F' k→F k∨w.heap.size≤k)∧PAt w' p F' (writeG g a bs L) (writeP pg a L) pt' B D'∧But F w w':=by
 go_enter Tryz.func35,Tryz.ntmps35
 go_wp2
 go_loopw [1,6] (fun v1 v6 wr=>∃(i m:Nat) (F':Nat→Prop) (pt':Int→Option Nat) (D':DataW Unit),i+m=L∧v1=.int .u32 (place a i)∧Slc .u8 wr v6 m (fun j=>bs (i+j))∧(0<m→∀k,v6.ownBlock=some k→¬F k∧k<w.heap.size) ∧
  (∀k,F' k→F k∨w.heap.size≤k)∧PAt wr p F' (writeG g a bs i) (writeP pg a i) pt' B D'∧But F w wr) (fun _ v6 _=>match v6 with | .slice _ n _=>n|_=>0)
 case atStart=>
  exact⟨0,L,F,pt,D,by omega,by unfold place;rw[show(a+((0:Nat):Int))%4294967296=a by omega],by simpa using hs,fun h k hk=>⟨hv h k hk,hs.own_lt h k hk⟩,fun _ h=>.inl h,hm,But.refl _ _⟩
 case round=>
  obtain⟨i,m,F',pt',D',hL,rfl,hs2,hv2,hF,hm2,hbut⟩:=hrel
  by_cases hm0:0<m
  ·rcases hs2 with⟨rfl,rfl⟩|⟨ra,cap,rfl,hcap,hcell⟩
   ·exact absurd hm0 (by omega)
   ·have hd:decide (0<(m:Int))=true:=decide_eq_true (by omega)
    obtain⟨hraF,hral⟩:=hv2 hm0 ra.block rfl
    have p0:0≤place a i:=by unfold place;omega
    have p1:place a i<4294967296:=by unfold place;omega
    obtain⟨q0,q1,q2⟩:=pg0_range _ p0 p1
    obtain⟨l,hl⟩:∃l:Nat,(l:Int)=place a i%4096:=⟨(place a i%4096).toNat,by omega⟩
    have hl1:l<4096:=by omega
    have hpl:pg0 (place a i)+(l:Int)=place a i:=by unfold pg0;omega
    obtain⟨c,hc⟩:∃c:Nat,c=Nat.min m (4096-l):=⟨_,rfl⟩
    have hc1:c≤m:=by rw[hc];exact Nat.min_le_left _ _
    have hc2:c≤4096-l:=by rw[hc];exact Nat.min_le_right _ _
    have hc3:0<c:=by rw[hc];exact Nat.lt_min.2 ⟨hm0,by omega⟩
    have hbl:=blit_write g a bs i c (by omega)
    obtain⟨c',hc'⟩:∃c',c=c'+1:=⟨c-1,by omega⟩
    have hpw:=page_write pg a i c' (by omega)
    rw[←hc']at hpw
    have hadv:IntKind.u32.wrap (place a i+IntKind.u32.wrap (c:Int))=place a (i+c):=by rw[IntKind.wrap_u32,IntKind.wrap_u32];unfold place;omega
    obtain⟨wo,hwo⟩:∃wo:World,wo=wr:=⟨_,rfl⟩
    subst hwo
    go_wp2_with fail
    refine(split_any _ p0 p1 _).mono ?_
    rintro e w1 ⟨rfl,hw1⟩
    subst w1
    rw[←hl]
    clear hl
    go_wp2_with fail
    refine(grown_any p F' _ _ pt' B D' _ q0 q1 q2 _ hm2).mono ?_
    rintro e w1 ⟨F2,k,pt2,D2,rfl,hF1,hF2,hk,hm1,hbut1⟩
    obtain⟨_,hFk,_,_,hrow⟩:=hm1.page _ _ hk
    have hbut2:But F w w1:=hbut.trans hbut1 (fun j hj h=>by rcases hF j h with h2|h2;exact h2;exact absurd hj (by omega))
    have hF3:∀j,F2 j→F j∨w.heap.size≤j:=fun j h=>by
     rcases hF1 j h with h2|h2
     ·exact hF j h2
     ·exact .inr (Nat.le_trans hbut.size h2)
    have hra2:¬F' ra.block:=fun h=>by rcases hF _ h with h2|h2;exact hraF h2;omega
    have hcell2:∀j,j<m→w1.cell? (ra.add j)=some (.int .u8 (bs (i+j))):=fun j hj=>hbut1.cell (hcell j hj) (by rw[add_block];exact hra2)
    have hm3:=PAt.setBytes hk c l (fun j=>bs (i+j)) _ _ hm1 (by omega) (fun j _=>hb _)
    rw[hpl,hbl,setP_pg0,←hpw]at hm3
    have hbut3:But F w (w1.setCells k l (bytesOf (fun j=>bs (i+j)) c)):=But.setCells (fun h=>by rcases hF3 k hFk with h2|h2;exact h2;exact absurd h (by omega)) _ _ _ hbut2
    have hdst:∀j,j<c→(w1.cell? ⟨k,l+j,none⟩).isSome=true:=fun j hj=>by rw[hrow.cell (show l+j<4096 by omega)];rfl
    have hfro:∀j,w1.frozen? ⟨k,l+j,none⟩=false:=fun j=>hrow.frozen _
    have hcx:=Lib.hid hc
    have hca:∀j,j<m-c→(w1.setCells k l (bytesOf (fun j=>bs (i+j)) c)).cell? ((ra.add c).add j)=some (.int .u8 (bs (i+c+j))):=fun j hj=>by
     have h2:=hcell2 (c+j) (by omega)
     have e:(ra.add c).add j=ra.add (c+j):=by
      unfold Addr.add
      by_cases hx:c=0<;>by_cases hy:j=0<;>simp[hx,hy,Nat.add_assoc]
     rw[e,World.cell?_setCells_out k _ _ _ _ (fun h=>by
      rw[add_block]at h
      rcases hF3 k hFk with h3|h3
      ·exact absurd (h ▸ h3) hraF
      ·omega),h2,Nat.add_assoc]
    clear hm1 hrow hm hm2 hcell hc hc'
    have hsl:=slice_page k l hl1
    have hcL:(c:Int)≤(m:Int):=by omega
    go_wp2_with (refine wpList_copy_cells rfl (.tmp 24) (.tmp 25) _ _ rfl 5 Tryz.underlying37 (by kernel_rfl) ⟨k,l,none⟩ ra (4096-l) (4096-l) m cap rfl rfl k l rfl (bytesOf (fun j=>bs (i+j)) c) (by rw[bytesOf_len];exact hcx.out) (fun j u hu=>by obtain⟨h1,rfl⟩:=bytesOf_at hu;exact hcell2 j (by omega)) (fun j hj=>hdst j (by rwa[bytesOf_len]at hj)) (fun j _=>hfro j) (fun u hu=>bytesOf_one u hu) ?_;rw[bytesOf_len])
    go_roundw
    case rel=>exact⟨i+c,m-c,F2,pt2,D2,by omega,by rw[←hadv,IntKind.wrap_u32,IntKind.wrap_u32];congr 1;omega,by
     by_cases hcc:cap=c
     ·rw[if_pos hcc]
      exact .inr ⟨ra,cap-c,rfl,by omega,fun j hj=>by omega⟩
     ·rw[if_neg hcc]
      exact .inr ⟨_,cap-c,rfl,by omega,hca⟩,fun hp j hj=>by
     split at hj
     ·cases hj;exact⟨hraF,hral⟩
     ·cases hj;rw[add_block];exact⟨hraF,hral⟩,hF3,hm3,hbut3⟩
    case measure=>show m-c<m;omega
  ·obtain rfl:m=0:=by omega
   obtain rfl:i=L:=by omega
   obtain⟨ad,cap,rfl⟩:=hs2.len
   go_wp2
   go_end0
   exact⟨F',pt',D',rfl,hF,hm2,hbut⟩
end
section
open Go.ChangeShapes Go.WideShapes Go.ChangeAt Go.RowKit Go.Maps Go.Deep
set_option maxRecDepth 100000
theorem step_copy_cells{P:Program}{ops:Array Oper}{o:Oper}{a:Act}{w:World}{K:Act→World→Prop}{Q:Exit→Act→World→Prop}{E:Prop}(hgd:o.guard=none)(d s:Operand)(dT sT:TypeId)
  (ho:o.op=.call { callee:=.builtin .copy,args:=#[d,s],argTypes:=#[dT,sT] }) (elem:TypeId) (hu:P.underlying dT=some (.slice elem)) (hsz:(P.info? elem).map (·.size)=some 1)
  (da sa:Addr) (dLen dCap sLen sCap:Nat) (hd:a.eval d=.slice (some da) dLen dCap) (hs:a.eval s=.slice (some sa) sLen sCap) (b off:Nat) (hda:da=⟨b,off,none⟩)
  (cs:List Value) (hn:cs.length=Nat.min sLen dLen) (hsrc:∀j v,cs[j]?=some v→w.cell? (sa.add j)=some v)
  (hc:∀j,j<cs.length→(w.cell? ⟨b,off+j,none⟩).isSome=true) (hf:∀j,j<cs.length→w.frozen? ⟨b,off+j,none⟩=false) (h1:∀v∈cs,v.oneCell'=true)
  (h:K (a.put o.dst (goInt cs.length)) (w.setCells b off cs)):if Region.wanted o (yielded ops a.tmps)=true then Oper.wp P o a w K Q else E:=by
 subst hda
 have hw:Region.wanted o (yielded ops a.tmps)=true:=by simp[Region.wanted,hgd]
 rw[if_pos hw]
 have hrun:=run_copy_cells (P:=P) w dT sT o.type elem b off dLen dCap sa sLen sCap cs hu hsz hn hsrc hc hf h1
 unfold Oper.wp
 simp[execOp,ho,resolve,invoke,builtin,hd,hs,hrun,Result.andThen]
 exact h
theorem addr0(b o j:Nat):(⟨b,o,none⟩:Addr).add j=⟨b,o+j,none⟩:=by unfold Addr.add;split<;>simp_all
theorem But.page{w w':World}{F G:Nat→Prop}{p B:Nat}{g:Int→Int}{pg:Int→Bool}{pt:Int→Option Nat}{D:DataW Unit}(hm:PAt w p F g pg pt B D)(hb:But G w w')(hn:∀k,F k→¬G k):PAt w' p F g pg pt B D:=hm.but hb hn
set_option maxHeartbeats 4000000
theorem mread0_any(p:Nat)(F:Nat→Prop)(g:Int→Int)(pg:Int→Bool)(pt:Int→Option Nat)(B:Nat)(D:DataW Unit)(a m:Int)(a0:0≤a)(a1:a<4294967296)(w:World)(hm:PAt w p F g pg pt B D):
  Calls Tryz.prog 43 #[.pointer (some ⟨p,0,none⟩),.int .u32 a,.int .i64 m] w fun e w'=>∃v,e=.returned v∧Slc .u8 w' v (readN m) (fun i=>g (place a i))∧Below w.heap.size w w':=by
 have hmk:=fun(N:Nat) (hN:N≤1048576)=>run_make_row' (P:=Tryz.prog) 37 5 (.int .u8 0) 1 Tryz.underlying37 info_u8 rfl .i64 .i64 N (by omega) (by omega)
 obtain⟨N,hN⟩:∃N:Nat,readN m=N:=⟨_,rfl⟩
 have hN1:=readN_le m
 have hcase:(m<0∧N≤0)∨(0≤m∧m≤1048576∧(N:Int)=m)∨(1048576<m∧1048576≤N):=by
  rw[←hN];unfold readN;split<;>(try split)<;>omega
 rw[hN]at hN1 ⊢
 clear hN
 have hmk:=hmk N hN1
 rcases hcase with⟨h1,hN0⟩|⟨h1,h2,rfl⟩|⟨h1,hN0⟩
 ·rw[show((N:Nat):Int)=0 by omega]at hmk
  go_enter Tryz.func43,Tryz.ntmps43
  go_wp2
  clear hmk
  have hm1:=hm.below (below_last (Below.refl _ w) (.cells (madeCells #[.int .u8 0] N) 5))
  have hB1:Below w.heap.size w (w.alloc (.cells (madeCells #[.int .u8 0] N) 5)):=below_last (Below.refl _ _) _
  have hr0:∀i,i<N→(w.alloc (.cells (madeCells #[.int .u8 0] N) 5)).cell? ⟨w.heap.size,i,none⟩=some (.int .u8 0):=fun i hi=>by
   exact(World.rowIs_made w (.int .u8 0) N 5).cell hi
  have hf0:∀i,(w.alloc (.cells (madeCells #[.int .u8 0] N) 5)).frozen? ⟨w.heap.size,i,none⟩=false:=fun i=>by simp
  have hz0:w.heap.size<(w.alloc (.cells (madeCells #[.int .u8 0] N) 5)).heap.size:=by simp
  have hFR:∀k,F k→k≠w.heap.size:=fun k hk e=>by have:=hm.lt k hk;omega
  generalize w.alloc (.cells (madeCells #[.int .u8 0] N) 5)=W at *
  clear hm
  go_loopw [1,8] (fun v1 v8 wr=>∃(i k:Nat) (ad:Addr),i+k=N∧v1=.int .u32 (place a i)∧v8=.slice (some ad) k k∧(0<k→ad=⟨w.heap.size,i,none⟩)∧But (·=w.heap.size) W wr∧(∀j,wr.frozen? ⟨w.heap.size,j,none⟩=false)∧(∀j,j<N→wr.cell? ⟨w.heap.size,j,none⟩=some (.int .u8 (if j<i then g (place a j)else 0)))) (fun _ v8 _=>match v8 with | .slice _ n _=>n|_=>0)
  case atStart=>exact⟨0,N,_,by omega,by unfold place;rw[show(a+((0:Nat):Int))%4294967296=a by omega],rfl,fun _=>rfl,But.refl _ _,hf0,fun j hj=>by rw[if_neg (by omega)];exact hr0 j hj⟩
  case round=>
   obtain⟨i,k,ad,hik,rfl,rfl,had,hr,hfz,hcells⟩:=hrel
   have hm2:=hm1.but hr hFR
   obtain⟨wo,hwo⟩:∃wo:World,wo=wr:=⟨_,rfl⟩
   subst hwo
   by_cases hk0:0<k
   ·exact absurd hk0 (by omega)
   ·obtain rfl:k=0:=by omega
    obtain rfl:i=N:=by omega
    have hcells':=Lib.hid hcells
    have hr':=hr
    clear hcells hfz hm2
    go_wp2
    go_ret
    exact⟨_,by rfl,.inr ⟨_,_,rfl,Nat.le_refl _,fun j hj=>by rw[addr0,Nat.zero_add,hcells'.out j hj,if_pos hj]⟩,hr'.below hB1 (fun k hk=>by omega) (by omega)⟩
 ·have hN0:=hN1
  go_enter Tryz.func43,Tryz.ntmps43
  go_wp2
  clear hmk
  have hm1:=hm.below (below_last (Below.refl _ w) (.cells (madeCells #[.int .u8 0] N) 5))
  have hB1:Below w.heap.size w (w.alloc (.cells (madeCells #[.int .u8 0] N) 5)):=below_last (Below.refl _ _) _
  have hr0:∀i,i<N→(w.alloc (.cells (madeCells #[.int .u8 0] N) 5)).cell? ⟨w.heap.size,i,none⟩=some (.int .u8 0):=fun i hi=>by
   exact(World.rowIs_made w (.int .u8 0) N 5).cell hi
  have hf0:∀i,(w.alloc (.cells (madeCells #[.int .u8 0] N) 5)).frozen? ⟨w.heap.size,i,none⟩=false:=fun i=>by simp
  have hz0:w.heap.size<(w.alloc (.cells (madeCells #[.int .u8 0] N) 5)).heap.size:=by simp
  have hFR:∀k,F k→k≠w.heap.size:=fun k hk e=>by have:=hm.lt k hk;omega
  generalize w.alloc (.cells (madeCells #[.int .u8 0] N) 5)=W at *
  clear hm
  go_loopw [1,8] (fun v1 v8 wr=>∃(i k:Nat) (ad:Addr),i+k=N∧v1=.int .u32 (place a i)∧v8=.slice (some ad) k k∧(0<k→ad=⟨w.heap.size,i,none⟩)∧But (·=w.heap.size) W wr∧(∀j,wr.frozen? ⟨w.heap.size,j,none⟩=false)∧(∀j,j<N→wr.cell? ⟨w.heap.size,j,none⟩=some (.int .u8 (if j<i then g (place a j)else 0)))) (fun _ v8 _=>match v8 with | .slice _ n _=>n|_=>0)
  case atStart=>exact⟨0,N,_,by omega,by unfold place;rw[show(a+((0:Nat):Int))%4294967296=a by omega],rfl,fun _=>rfl,But.refl _ _,hf0,fun j hj=>by rw[if_neg (by omega)];exact hr0 j hj⟩
  case round=>
   obtain⟨i,k,ad,hik,rfl,rfl,had,hr,hfz,hcells⟩:=hrel
   have hm2:=hm1.but hr hFR
   obtain⟨wo,hwo⟩:∃wo:World,wo=wr:=⟨_,rfl⟩
   subst hwo
   by_cases hk0:0<k
   ·obtain rfl:=had hk0
    have hd:decide (0<(k:Int))=true:=decide_eq_true (by omega)
    have p0:0≤place a i:=by unfold place;omega
    have p1:place a i<4294967296:=by unfold place;omega
    obtain⟨q0,q1,q2⟩:=pg0_range _ p0 p1
    obtain⟨l,hl⟩:∃l:Nat,(l:Int)=place a i%4096:=⟨(place a i%4096).toNat,by omega⟩
    obtain⟨r,hr4⟩:∃r:Nat,l+r=4096:=⟨4096-l,by omega⟩
    have hsub:IntKind.i64.wrap (4096-(l:Int))=(r:Int):=by rw[IntKind.wrap_i64];omega
    have hpl:pg0 (place a i)+(l:Int)=place a i:=by unfold pg0;omega
    have hl1:l<4096:=by omega
    obtain⟨c,hcc⟩:∃c:Nat,(k=c∧c≤r)∨(r=c∧c<k):=by
     by_cases h:k≤r
     ·exact⟨k,.inl ⟨rfl,h⟩⟩
     ·exact⟨r,.inr ⟨rfl,by omega⟩⟩
    have hget:=hm2.get (pg0 (place a i)) q1 q2
    have hcm:=hm2.cell
    have hcp:c≤k:=by omega
    have hcr:c≤r:=by omega
    have hcN:i+c≤N:=by omega
    have hc0:0<c:=by omega
    have hpa:∀j,j<c→place a (i+j)=pg0 (place a i)+((l+j:Nat):Int):=fun j hj=>by rw[place_add a i j (by omega)];omega
    have hadv:IntKind.u32.wrap (place a i+IntKind.u32.wrap (c:Int))=place a (i+c):=by rw[IntKind.wrap_u32,IntKind.wrap_u32];unfold place;omega
    have hpa:=Lib.hid hpa
    have hcells':=Lib.hid hcells
    have hfz':=Lib.hid hfz
    have hadv:=Lib.hid hadv
    clear hcells hfz had
    cases hp:pt (pg0 (place a i))with
    |none=>
     rw[hp]at hget
     simp only[ptrOf]at hget
     have hcells2:∀j,j<N→wo.cell? ⟨w.heap.size,j,none⟩=some (.int .u8 (if j<i+c then g (place a j)else 0)):=fun j hj=>by
      rw[hcells'.out j hj]
      by_cases hj1:j<i
      ·rw[if_pos hj1,if_pos (by omega)]
      ·rw[if_neg hj1]
       by_cases hj2:j<i+c
       ·rw[if_pos hj2]
        have e:=hpa.out (j-i) (by omega)
        rw[show i+(j-i)=j by omega]at e
        rw[hm2.none_ (place a j) (by rw[e,show(pg0 (place a i)+((l+(j-i):Nat):Int))/4096*4096=pg0 (place a i)by omega];exact hp)]
       ·rw[if_neg hj2]
     have hcells2:=Lib.hid hcells2
     clear hm2
     go_wp2_with fail
     refine(split_any _ p0 p1 _).mono ?_
     rintro e w1 ⟨rfl,hw1⟩
     subst w1
     rw[←hl]
     clear hl
     rcases hcc with⟨hkc,h3⟩|⟨hrc,h3⟩
     ·subst hkc
      go_wp2
      go_roundw
      case rel=>exact⟨i+k,0,_,by omega,by rw[←hadv.out,IntKind.wrap_u32,IntKind.wrap_u32];congr 1;omega,rfl,fun h=>absurd h (by omega),hr,hfz'.out,hcells2.out⟩
      case measure=>show 0<k;omega
     ·subst hrc
      go_wp2
      go_roundw
      case rel=>exact⟨i+r,k-r,_,by omega,by rw[←hadv.out,IntKind.wrap_u32,IntKind.wrap_u32];congr 1;omega,rfl,fun _=>rfl,hr,hfz'.out,hcells2.out⟩
      case measure=>show k-r<k;omega
    |some kp=>
     rw[hp]at hget
     simp only[ptrOf]at hget
     obtain⟨_,hFk,_,_,hrow⟩:=hm2.page _ _ hp
     have hkR:kp≠w.heap.size:=hFR kp hFk
     have hsrc:∀j,j<c→wo.cell? ((⟨kp,l,none⟩:Addr).add j)=some (.int .u8 (g (place a (i+j)))):=fun j hj=>by
      rw[addr0,hrow.cell (show l+j<4096 by omega),hpa.out j hj]
     have hdst:∀j,j<c→(wo.cell? ⟨w.heap.size,i+j,none⟩).isSome=true:=fun j hj=>by rw[hcells'.out (i+j) (by omega)];rfl
     have hcells2:∀j,j<N→(wo.drew.setCells w.heap.size i (bytesOf (fun j=>g (place a (i+j))) c)).cell? ⟨w.heap.size,j,none⟩=some (.int .u8 (if j<i+c then g (place a j)else 0)):=fun j hj=>by
      by_cases hin:i≤j∧j<i+c
      ·have h2:=World.cell?_setCells_in w.heap.size (bytesOf (fun j=>g (place a (i+j))) c) i wo.drew (fun q hq=>hdst q (by rwa[bytesOf_len]at hq)) (j-i) (by rw[bytesOf_len];omega)
       rw[show i+(j-i)=j by omega]at h2
       rw[h2,if_pos hin.2]
       simp[bytesOf,show i+(j-i)=j by omega]
      ·rw[World.cell?_setCells_out w.heap.size _ _ _ _ (fun _ _=>by rw[bytesOf_len];show j<i∨i+c≤j;omega)]
       show wo.cell? _=_
       rw[hcells'.out j hj]
       by_cases hj1:j<i
       ·rw[if_pos hj1,if_pos (by omega)]
       ·rw[if_neg hj1,if_neg (by omega)]
     have hbw:But (·=w.heap.size) W (wo.drew.setCells w.heap.size i (bytesOf (fun j=>g (place a (i+j))) c)):=But.setCells (F:=(·=w.heap.size)) (fun _=>rfl) _ _ _ hr.drew
     have hfw:∀j,(wo.drew.setCells w.heap.size i (bytesOf (fun j=>g (place a (i+j))) c)).frozen? ⟨w.heap.size,j,none⟩=false:=fun j=>by rw[World.frozen?_setCells];exact hfz'.out j
     have hcells2:=Lib.hid hcells2
     have hbw:=Lib.hid hbw
     have hfw:=Lib.hid hfw
     have hsrc:=Lib.hid hsrc
     have hdst:=Lib.hid hdst
     clear hm2 hrow
     go_wp2_with fail
     refine(split_any _ p0 p1 _).mono ?_
     rintro e w1 ⟨rfl,hw1⟩
     subst w1
     rw[←hl]
     clear hl
     rcases hcc with⟨hkc,h3⟩|⟨hrc,h3⟩
     ·subst hkc
      go_wp2
      have hsl:=slice_page kp l hl1

      go_region_law (refine step_copy_cells rfl (.tmp 41) (.tmp 45) _ _ rfl 5 Tryz.underlying37 (by kernel_rfl) ⟨w.heap.size,i,none⟩ ⟨kp,l,none⟩ k k (4096-l) (4096-l) (by simp[Act.eval,Act.put]) (by simp[Act.eval,Act.put]) w.heap.size i rfl (bytesOf (fun j=>g (place a (i+j))) k) (by rw[bytesOf_len];exact(Nat.min_eq_right (by omega)).symm) (fun j u hu=>by obtain⟨h1,rfl⟩:=bytesOf_at hu;exact hsrc.out j h1) (fun j hj=>by rw[bytesOf_len]at hj;exact hdst.out j hj) (fun j _=>hfz'.out _) (fun u hu=>bytesOf_one u hu) ?_;rw[bytesOf_len])

      go_wp2
      go_roundw
      case rel=>exact⟨i+k,0,_,by omega,by rw[←hadv.out,IntKind.wrap_u32,IntKind.wrap_u32];congr 1;omega,rfl,fun h=>absurd h (by omega),hbw.out,hfw.out,hcells2.out⟩
      case measure=>show 0<k;omega
     ·subst hrc
      go_wp2
      have hsl:=slice_page kp l hl1

      go_region_law (refine step_copy_cells rfl (.tmp 41) (.tmp 45) _ _ rfl 5 Tryz.underlying37 (by kernel_rfl) ⟨w.heap.size,i,none⟩ ⟨kp,l,none⟩ r k (4096-l) (4096-l) (by simp[Act.eval,Act.put]) (by simp[Act.eval,Act.put]) w.heap.size i rfl (bytesOf (fun j=>g (place a (i+j))) r) (by rw[bytesOf_len];exact(Nat.min_eq_right (by omega)).symm) (fun j u hu=>by obtain⟨h1,rfl⟩:=bytesOf_at hu;exact hsrc.out j h1) (fun j hj=>by rw[bytesOf_len]at hj;exact hdst.out j hj) (fun j _=>hfz'.out _) (fun u hu=>bytesOf_one u hu) ?_;rw[bytesOf_len])

      go_wp2
      go_roundw
      case rel=>exact⟨i+r,k-r,_,by omega,by rw[←hadv.out,IntKind.wrap_u32,IntKind.wrap_u32];congr 1;omega,rfl,fun _=>rfl,hbw.out,hfw.out,hcells2.out⟩
      case measure=>show k-r<k;omega
   ·obtain rfl:k=0:=by omega
    obtain rfl:i=N:=by omega
    have hcells':=Lib.hid hcells
    have hr':=hr
    clear hcells hfz hm2
    go_wp2
    go_ret
    exact⟨_,by rfl,.inr ⟨_,_,rfl,Nat.le_refl _,fun j hj=>by rw[addr0,Nat.zero_add,hcells'.out j hj,if_pos hj]⟩,hr'.below hB1 (fun k hk=>by omega) (by omega)⟩
 ·rw[show((N:Nat):Int)=1048576 by omega]at hmk
  go_enter Tryz.func43,Tryz.ntmps43
  go_wp2
  clear hmk
  have hm1:=hm.below (below_last (Below.refl _ w) (.cells (madeCells #[.int .u8 0] N) 5))
  have hB1:Below w.heap.size w (w.alloc (.cells (madeCells #[.int .u8 0] N) 5)):=below_last (Below.refl _ _) _
  have hr0:∀i,i<N→(w.alloc (.cells (madeCells #[.int .u8 0] N) 5)).cell? ⟨w.heap.size,i,none⟩=some (.int .u8 0):=fun i hi=>by
   exact(World.rowIs_made w (.int .u8 0) N 5).cell hi
  have hf0:∀i,(w.alloc (.cells (madeCells #[.int .u8 0] N) 5)).frozen? ⟨w.heap.size,i,none⟩=false:=fun i=>by simp
  have hz0:w.heap.size<(w.alloc (.cells (madeCells #[.int .u8 0] N) 5)).heap.size:=by simp
  have hFR:∀k,F k→k≠w.heap.size:=fun k hk e=>by have:=hm.lt k hk;omega
  generalize w.alloc (.cells (madeCells #[.int .u8 0] N) 5)=W at *
  clear hm
  go_loopw [1,8] (fun v1 v8 wr=>∃(i k:Nat) (ad:Addr),i+k=N∧v1=.int .u32 (place a i)∧v8=.slice (some ad) k k∧(0<k→ad=⟨w.heap.size,i,none⟩)∧But (·=w.heap.size) W wr∧(∀j,wr.frozen? ⟨w.heap.size,j,none⟩=false)∧(∀j,j<N→wr.cell? ⟨w.heap.size,j,none⟩=some (.int .u8 (if j<i then g (place a j)else 0)))) (fun _ v8 _=>match v8 with | .slice _ n _=>n|_=>0)
  case atStart=>exact⟨0,N,_,by omega,by unfold place;rw[show(a+((0:Nat):Int))%4294967296=a by omega],rfl,fun _=>rfl,But.refl _ _,hf0,fun j hj=>by rw[if_neg (by omega)];exact hr0 j hj⟩
  case round=>
   obtain⟨i,k,ad,hik,rfl,rfl,had,hr,hfz,hcells⟩:=hrel
   have hm2:=hm1.but hr hFR
   obtain⟨wo,hwo⟩:∃wo:World,wo=wr:=⟨_,rfl⟩
   subst hwo
   by_cases hk0:0<k
   ·obtain rfl:=had hk0
    have hd:decide (0<(k:Int))=true:=decide_eq_true (by omega)
    have p0:0≤place a i:=by unfold place;omega
    have p1:place a i<4294967296:=by unfold place;omega
    obtain⟨q0,q1,q2⟩:=pg0_range _ p0 p1
    obtain⟨l,hl⟩:∃l:Nat,(l:Int)=place a i%4096:=⟨(place a i%4096).toNat,by omega⟩
    obtain⟨r,hr4⟩:∃r:Nat,l+r=4096:=⟨4096-l,by omega⟩
    have hsub:IntKind.i64.wrap (4096-(l:Int))=(r:Int):=by rw[IntKind.wrap_i64];omega
    have hpl:pg0 (place a i)+(l:Int)=place a i:=by unfold pg0;omega
    have hl1:l<4096:=by omega
    obtain⟨c,hcc⟩:∃c:Nat,(k=c∧c≤r)∨(r=c∧c<k):=by
     by_cases h:k≤r
     ·exact⟨k,.inl ⟨rfl,h⟩⟩
     ·exact⟨r,.inr ⟨rfl,by omega⟩⟩
    have hget:=hm2.get (pg0 (place a i)) q1 q2
    have hcm:=hm2.cell
    have hcp:c≤k:=by omega
    have hcr:c≤r:=by omega
    have hcN:i+c≤N:=by omega
    have hc0:0<c:=by omega
    have hpa:∀j,j<c→place a (i+j)=pg0 (place a i)+((l+j:Nat):Int):=fun j hj=>by rw[place_add a i j (by omega)];omega
    have hadv:IntKind.u32.wrap (place a i+IntKind.u32.wrap (c:Int))=place a (i+c):=by rw[IntKind.wrap_u32,IntKind.wrap_u32];unfold place;omega
    have hpa:=Lib.hid hpa
    have hcells':=Lib.hid hcells
    have hfz':=Lib.hid hfz
    have hadv:=Lib.hid hadv
    clear hcells hfz had
    cases hp:pt (pg0 (place a i))with
    |none=>
     rw[hp]at hget
     simp only[ptrOf]at hget
     have hcells2:∀j,j<N→wo.cell? ⟨w.heap.size,j,none⟩=some (.int .u8 (if j<i+c then g (place a j)else 0)):=fun j hj=>by
      rw[hcells'.out j hj]
      by_cases hj1:j<i
      ·rw[if_pos hj1,if_pos (by omega)]
      ·rw[if_neg hj1]
       by_cases hj2:j<i+c
       ·rw[if_pos hj2]
        have e:=hpa.out (j-i) (by omega)
        rw[show i+(j-i)=j by omega]at e
        rw[hm2.none_ (place a j) (by rw[e,show(pg0 (place a i)+((l+(j-i):Nat):Int))/4096*4096=pg0 (place a i)by omega];exact hp)]
       ·rw[if_neg hj2]
     have hcells2:=Lib.hid hcells2
     clear hm2
     go_wp2_with fail
     refine(split_any _ p0 p1 _).mono ?_
     rintro e w1 ⟨rfl,hw1⟩
     subst w1
     rw[←hl]
     clear hl
     rcases hcc with⟨hkc,h3⟩|⟨hrc,h3⟩
     ·subst hkc
      go_wp2
      go_roundw
      case rel=>exact⟨i+k,0,_,by omega,by rw[←hadv.out,IntKind.wrap_u32,IntKind.wrap_u32];congr 1;omega,rfl,fun h=>absurd h (by omega),hr,hfz'.out,hcells2.out⟩
      case measure=>show 0<k;omega
     ·subst hrc
      go_wp2
      go_roundw
      case rel=>exact⟨i+r,k-r,_,by omega,by rw[←hadv.out,IntKind.wrap_u32,IntKind.wrap_u32];congr 1;omega,rfl,fun _=>rfl,hr,hfz'.out,hcells2.out⟩
      case measure=>show k-r<k;omega
    |some kp=>
     rw[hp]at hget
     simp only[ptrOf]at hget
     obtain⟨_,hFk,_,_,hrow⟩:=hm2.page _ _ hp
     have hkR:kp≠w.heap.size:=hFR kp hFk
     have hsrc:∀j,j<c→wo.cell? ((⟨kp,l,none⟩:Addr).add j)=some (.int .u8 (g (place a (i+j)))):=fun j hj=>by
      rw[addr0,hrow.cell (show l+j<4096 by omega),hpa.out j hj]
     have hdst:∀j,j<c→(wo.cell? ⟨w.heap.size,i+j,none⟩).isSome=true:=fun j hj=>by rw[hcells'.out (i+j) (by omega)];rfl
     have hcells2:∀j,j<N→(wo.drew.setCells w.heap.size i (bytesOf (fun j=>g (place a (i+j))) c)).cell? ⟨w.heap.size,j,none⟩=some (.int .u8 (if j<i+c then g (place a j)else 0)):=fun j hj=>by
      by_cases hin:i≤j∧j<i+c
      ·have h2:=World.cell?_setCells_in w.heap.size (bytesOf (fun j=>g (place a (i+j))) c) i wo.drew (fun q hq=>hdst q (by rwa[bytesOf_len]at hq)) (j-i) (by rw[bytesOf_len];omega)
       rw[show i+(j-i)=j by omega]at h2
       rw[h2,if_pos hin.2]
       simp[bytesOf,show i+(j-i)=j by omega]
      ·rw[World.cell?_setCells_out w.heap.size _ _ _ _ (fun _ _=>by rw[bytesOf_len];show j<i∨i+c≤j;omega)]
       show wo.cell? _=_
       rw[hcells'.out j hj]
       by_cases hj1:j<i
       ·rw[if_pos hj1,if_pos (by omega)]
       ·rw[if_neg hj1,if_neg (by omega)]
     have hbw:But (·=w.heap.size) W (wo.drew.setCells w.heap.size i (bytesOf (fun j=>g (place a (i+j))) c)):=But.setCells (F:=(·=w.heap.size)) (fun _=>rfl) _ _ _ hr.drew
     have hfw:∀j,(wo.drew.setCells w.heap.size i (bytesOf (fun j=>g (place a (i+j))) c)).frozen? ⟨w.heap.size,j,none⟩=false:=fun j=>by rw[World.frozen?_setCells];exact hfz'.out j
     have hcells2:=Lib.hid hcells2
     have hbw:=Lib.hid hbw
     have hfw:=Lib.hid hfw
     have hsrc:=Lib.hid hsrc
     have hdst:=Lib.hid hdst
     clear hm2 hrow
     go_wp2_with fail
     refine(split_any _ p0 p1 _).mono ?_
     rintro e w1 ⟨rfl,hw1⟩
     subst w1
     rw[←hl]
     clear hl
     rcases hcc with⟨hkc,h3⟩|⟨hrc,h3⟩
     ·subst hkc
      go_wp2
      have hsl:=slice_page kp l hl1

      go_region_law (refine step_copy_cells rfl (.tmp 41) (.tmp 45) _ _ rfl 5 Tryz.underlying37 (by kernel_rfl) ⟨w.heap.size,i,none⟩ ⟨kp,l,none⟩ k k (4096-l) (4096-l) (by simp[Act.eval,Act.put]) (by simp[Act.eval,Act.put]) w.heap.size i rfl (bytesOf (fun j=>g (place a (i+j))) k) (by rw[bytesOf_len];exact(Nat.min_eq_right (by omega)).symm) (fun j u hu=>by obtain⟨h1,rfl⟩:=bytesOf_at hu;exact hsrc.out j h1) (fun j hj=>by rw[bytesOf_len]at hj;exact hdst.out j hj) (fun j _=>hfz'.out _) (fun u hu=>bytesOf_one u hu) ?_;rw[bytesOf_len])

      go_wp2
      go_roundw
      case rel=>exact⟨i+k,0,_,by omega,by rw[←hadv.out,IntKind.wrap_u32,IntKind.wrap_u32];congr 1;omega,rfl,fun h=>absurd h (by omega),hbw.out,hfw.out,hcells2.out⟩
      case measure=>show 0<k;omega
     ·subst hrc
      go_wp2
      have hsl:=slice_page kp l hl1

      go_region_law (refine step_copy_cells rfl (.tmp 41) (.tmp 45) _ _ rfl 5 Tryz.underlying37 (by kernel_rfl) ⟨w.heap.size,i,none⟩ ⟨kp,l,none⟩ r k (4096-l) (4096-l) (by simp[Act.eval,Act.put]) (by simp[Act.eval,Act.put]) w.heap.size i rfl (bytesOf (fun j=>g (place a (i+j))) r) (by rw[bytesOf_len];exact(Nat.min_eq_right (by omega)).symm) (fun j u hu=>by obtain⟨h1,rfl⟩:=bytesOf_at hu;exact hsrc.out j h1) (fun j hj=>by rw[bytesOf_len]at hj;exact hdst.out j hj) (fun j _=>hfz'.out _) (fun u hu=>bytesOf_one u hu) ?_;rw[bytesOf_len])

      go_wp2
      go_roundw
      case rel=>exact⟨i+r,k-r,_,by omega,by rw[←hadv.out,IntKind.wrap_u32,IntKind.wrap_u32];congr 1;omega,rfl,fun _=>rfl,hbw.out,hfw.out,hcells2.out⟩
      case measure=>show k-r<k;omega
   ·obtain rfl:k=0:=by omega
    obtain rfl:i=N:=by omega
    have hcells':=Lib.hid hcells
    have hr':=hr
    clear hcells hfz hm2
    go_wp2
    go_ret
    exact⟨_,by rfl,.inr ⟨_,_,rfl,Nat.le_refl _,fun j hj=>by rw[addr0,Nat.zero_add,hcells'.out j hj,if_pos hj]⟩,hr'.below hB1 (fun k hk=>by omega) (by omega)⟩
end
section
open Go.ChangeShapes Go.WideShapes Go.ChangeAt Go.RowKit
set_option maxRecDepth 100000
def PMem(w:World)(p:Nat)(F:Nat→Prop)(g:Int→Int)(pg:Int→Bool):Prop:=∃pt B D,PAt w p F g pg pt B D
theorem PMem.but{F G:Nat→Prop}{w w':World}{p:Nat}{g:Int→Int}{pg:Int→Bool}(h:PMem w p F g pg)(hb:But G w w')(hn:∀k,F k→¬G k):PMem w' p F g pg:=by
 obtain⟨pt,B,D,h⟩:=h
 exact⟨pt,B,D,h.but hb hn⟩
theorem PMem.lt{F:Nat→Prop}{w:World}{p:Nat}{g:Int→Int}{pg:Int→Bool}(h:PMem w p F g pg)(k:Nat)(hk:F k):k<w.heap.size:=by
 obtain⟨pt,B,D,h⟩:=h
 exact h.lt k hk
theorem PMem.self{F:Nat→Prop}{w:World}{p:Nat}{g:Int→Int}{pg:Int→Bool}(h:PMem w p F g pg):F p:=by
 obtain⟨pt,B,D,h⟩:=h
 exact h.self
theorem PMem.byte{F:Nat→Prop}{w:World}{p:Nat}{g:Int→Int}{pg:Int→Bool}(h:PMem w p F g pg)(a:Int):0≤g a∧g a<256:=by
 obtain⟨pt,B,D,h⟩:=h
 exact h.byte a
theorem mnew_any(w:World):Calls Tryz.prog 34 #[] w fun e w'=>∃(p:Nat) (F:Nat→Prop),e=.returned (.pointer (some ⟨p,0,none⟩))∧(∀k,F k→w.heap.size≤k)∧PMem w' p F (fun _=>0) (fun _=>false)∧Below w.heap.size w w':=
 (mnew0_any w).mono fun _ _ ⟨p,F,B,h1,h2,h3,h4⟩=>⟨p,F,h1,h2,⟨_,B,_,h3⟩,h4⟩
theorem mread_any(p:Nat)(F:Nat→Prop)(g:Int→Int)(pg:Int→Bool)(a m:Int)(a0:0≤a)(a1:a<4294967296)(w:World)(hm:PMem w p F g pg):
  Calls Tryz.prog 43 #[.pointer (some ⟨p,0,none⟩),.int .u32 a,.int .i64 m] w fun e w'=>∃v,e=.returned v∧Slc .u8 w' v (readN m) (fun i=>g (place a i))∧Below w.heap.size w w':=by
 obtain⟨pt,B,D,h⟩:=hm
 exact mread0_any p F g pg pt B D a m a0 a1 w h
theorem mwrite_any(p:Nat)(F:Nat→Prop)(g:Int→Int)(pg:Int→Bool)(a:Int)(v:Value)(L:Nat)(bs:Nat→Int)(a0:0≤a)(a1:a<4294967296)(_:L<2147483648)(hb:∀i,0≤bs i∧bs i<256)(w:World)(hm:PMem w p F g pg)(hs:Slc .u8 w v L bs)(hv:0<L→∀k,v.ownBlock=some k→¬F k):
  Calls Tryz.prog 35 #[.pointer (some ⟨p,0,none⟩),.int .u32 a,v] w fun e w'=>∃F',e=.returned (.tuple #[])∧(∀k,F' k→F k∨w.heap.size≤k)∧PMem w' p F' (writeG g a bs L) (writeP pg a L)∧But F w w':=by
 obtain⟨pt,B,D,h⟩:=hm
 exact(mwrite0_any p F g pg pt B D a v L bs a0 a1 hb w h hs hv).mono fun _ _ ⟨F',pt',D',h1,h2,h3,h4⟩=>⟨F',h1,h2,⟨pt',B,D',h3⟩,h4⟩
end
end Go.Proofs.YtmdncgfheeijaaaGreat
