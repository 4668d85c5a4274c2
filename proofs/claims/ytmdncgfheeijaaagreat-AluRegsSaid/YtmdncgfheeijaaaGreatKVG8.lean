import Derived.Sort.MapsRangeIn
import Derived.RangeFuncBox
import Derived.RangeFuncNested
import Derived.RangeFuncBound
import Derived.RangeFuncCalls
import Derived.RangeFuncLeaves
import Derived.Shelf.Abstract
import Derived.Shelf.RegionOpen
import Derived.WalkKit
import Derived.OwnWalkIn
import Derived.TacticsInMore
import Derived.LoopNIn
import Derived.LoopIn
import Derived.Maps.AppendAt
import Derived.Test.YtmdncgfheeijaaaGreatKVG7
namespace Go.Proofs.YtmdncgfheeijaaaGreat
section
open Go.Sort
set_option maxRecDepth 100000
def SortF(a b:Nat)(d:Array Int):Prop:=∀i j,a≤i→i<j→j<b→gt d i≤gt d j
def BelF(a b:Nat)(d:Array Int):Prop:=a=0∨∀i,a≤i→i<b→gt d (a-1)≤gt d i
theorem perm_out{a b:Nat}{d d':Array Int}(h:PermIn a b d d')(t:Nat)(ht:t<a∨b≤t):gt d' t=gt d t:=h.2.1 t ht
theorem perm_all{a b:Nat}{d d':Array Int}(h:PermIn a b d d')(hb:b≤d.size)(p:Int→Prop)(hp:∀t,a≤t→t<b→p (gt d t))(t:Nat)(h1:a≤t)(h2:t<b):p (gt d' t):=permIn_all d d' a b p hb h hp t h1 h2
structure Left (lo hi a b:Nat) (d dk:Array Int):Prop where
 la:lo≤a
 ab:a≤b
 bh:b≤hi
 hs:hi≤d.size
 perm:PermIn lo hi d dk
 bel:BelF a b dk
 fin:∀d2,PermIn a b dk d2→SortF a b d2→SortF lo hi d2
theorem Left.size{lo hi a b:Nat}{d dk:Array Int}(h:Left lo hi a b d dk):dk.size=d.size:=h.perm.1
theorem Left.start{lo hi:Nat}{d:Array Int}(h1:lo≤hi)(h2:hi≤d.size)(hb:BelF lo hi d):Left lo hi lo hi d d:=⟨Nat.le_refl _,h1,Nat.le_refl _,h2,permIn_refl _ _ _,hb,fun _ _ h=>h⟩
theorem Left.turn{lo hi a b:Nat}{d dk d2:Array Int}(h:Left lo hi a b d dk)(hp:PermIn a b dk d2):Left lo hi a b d d2:=by
 have hz:=h.size
 have hb:=h.bh
 have hs:=h.hs
 refine⟨h.la,h.ab,h.bh,h.hs,permIn_trans _ _ _ _ _ h.perm (permIn_mono _ _ _ _ _ _ h.la h.bh (by omega) hp),?_,fun d3 h3 s3=>h.fin d3 (permIn_trans _ _ _ _ _ hp h3) s3⟩
 rcases h.bel with h0|h0
 ·exact .inl h0
 ·by_cases ha:a=0
  ·exact .inl ha
  ·refine .inr fun i i0 i1=>?_
   rw[perm_out hp (a-1) (by omega)]
   exact perm_all hp (by omega) (fun x=>gt dk (a-1)≤x) h0 i i0 i1
theorem Left.done{lo hi a b:Nat}{d dk d2:Array Int}(h:Left lo hi a b d dk)(hp:PermIn a b dk d2)(hs:SortF a b d2):PermIn lo hi d d2∧SortF lo hi d2:=⟨(h.turn hp).perm,h.fin d2 hp hs⟩
theorem Left.right{lo hi a b mid:Nat}{d dk d2 d3:Array Int}(h:Left lo hi a b d dk)(hp:PermIn a b dk d2)(h1:a≤mid)(h2:mid<b)(hl:∀t,a≤t→t<mid→gt d2 t<gt d2 mid)(hr:∀t,mid<t→t<b→gt d2 mid≤gt d2 t)(hp3:PermIn a mid d2 d3)(hs3:SortF a mid d3):Left lo hi (mid+1) b d d3:=by
 have ht:=h.turn hp
 have hz:=h.size
 have hz2:=ht.size
 have hb:=h.bh
 have hs:=h.hs
 have ht3:=ht.turn (permIn_mono _ _ _ _ _ _ (Nat.le_refl _) (Nat.le_of_lt h2) (by omega) hp3)
 have hz3:=ht3.size
 have hm3:gt d3 mid=gt d2 mid:=perm_out hp3 mid (by omega)
 have hl3:=perm_all hp3 (by omega) (fun x=>x<gt d2 mid) hl
 refine⟨by have:=h.la;omega,h2,hb,hs,ht3.perm,.inr fun i i0 i1=>?_,fun d4 h4 s4=>ht3.fin d4 (permIn_mono _ _ _ _ _ _ (by omega) (Nat.le_refl _) (by omega) h4) fun i j i0 ij jb=>?_⟩
 ·rw[show mid+1-1=mid by omega,hm3,perm_out hp3 i (by omega)]
  exact hr i (by omega) i1
 ·by_cases hj:j<mid+1
  ·rw[perm_out h4 i (by omega),perm_out h4 j (by omega)]
   by_cases hj2:j=mid
   ·subst hj2
    rw[hm3]
    exact Int.le_of_lt (hl3 i i0 ij)
   ·exact hs3 i j i0 ij (by omega)
  ·have hj2:=perm_all h4 (by omega) (fun x=>gt d2 mid≤x) (fun t t0 t1=>by rw[perm_out hp3 t (by omega)];exact hr t (by omega) t1) j (by omega) jb
   by_cases hi':i<mid+1
   ·rw[perm_out h4 i (by omega)]
    by_cases hi2:i=mid
    ·subst hi2;rw[hm3];exact hj2
    ·have:=hl3 i i0 (by omega)
     omega
   ·exact s4 i j (by omega) ij jb
theorem Left.left{lo hi a b mid:Nat}{d dk d2 d3:Array Int}(h:Left lo hi a b d dk)(hp:PermIn a b dk d2)(h1:a≤mid)(h2:mid<b)(hl:∀t,a≤t→t<mid→gt d2 t<gt d2 mid)(hr:∀t,mid<t→t<b→gt d2 mid≤gt d2 t)(hp3:PermIn (mid+1) b d2 d3)(hs3:SortF (mid+1) b d3):Left lo hi a mid d d3:=by
 have ht:=h.turn hp
 have hz:=h.size
 have hz2:=ht.size
 have hb:=h.bh
 have hs:=h.hs
 have ht3:=ht.turn (permIn_mono _ _ _ _ _ _ (by omega) (Nat.le_refl _) (by omega) hp3)
 have hz3:=ht3.size
 have hm3:gt d3 mid=gt d2 mid:=perm_out hp3 mid (by omega)
 have hr3:=perm_all hp3 (by omega) (fun x=>gt d2 mid≤x) (fun t t0 t1=>hr t (by omega) t1)
 refine⟨h.la,h1,by omega,hs,ht3.perm,?_,fun d4 h4 s4=>ht3.fin d4 (permIn_mono _ _ _ _ _ _ (Nat.le_refl _) (by omega) (by omega) h4) fun i j i0 ij jb=>?_⟩
 ·rcases ht3.bel with h0|h0
  ·exact .inl h0
  ·exact .inr fun i i0 i1=>h0 i i0 (by omega)
 ·by_cases hi':i<mid
  ·by_cases hj:j<mid
   ·exact s4 i j i0 ij hj
   ·have hi2:=perm_all h4 (by omega) (fun x=>x<gt d2 mid) (fun t t0 t1=>by rw[perm_out hp3 t (by omega)];exact hl t t0 t1) i i0 hi'
    rw[perm_out h4 j (by omega)]
    by_cases hj2:j=mid
    ·subst hj2;rw[hm3];exact Int.le_of_lt hi2
    ·have:=hr3 j (by omega) jb
     omega
  ·rw[perm_out h4 i (by omega),perm_out h4 j (by omega)]
   by_cases hi2:i=mid
   ·subst hi2;rw[hm3];exact hr3 j (by omega) jb
   ·exact hs3 i j (by omega) ij jb
end
section
open Go.RowKit Go.Maps Go.Shelf
set_option maxRecDepth 100000
def Came(D:DataW Unit)(left:Lit→Bool)(ss:List Int):Prop:=ss.Nodup∧∀x,x∈ss↔(Maps.has D (.int .u32 x)=true∧left (.int .u32 x)=false)
theorem Came.start(D:DataW Unit):Came D (Maps.has D) []:=⟨List.nodup_nil,fun x=>⟨fun h=>(by cases h),fun h=>absurd (h.1.symm.trans h.2) (by simp)⟩⟩
theorem Came.step{D:DataW Unit}{left:Lit→Bool}{ss:List Int}(h:Came D left ss){x:Int}(hl:left (.int .u32 x)=true)(hh:Maps.has D (.int .u32 x)=true):Came D (fun z=>left z&&!z.sameKey (.int .u32 x)) (ss++[x]):=by
 have hx:x ∉ ss:=fun hx=>by have:=(h.2 x).1 hx;rw[hl]at this;exact absurd this.2 (by simp)
 refine⟨by rw[List.nodup_append];exact⟨h.1,by simp,by rintro a ha b hb rfl;simp at hb;subst hb;exact hx ha⟩,fun y=>?_⟩
 rw[List.mem_append,h.2 y]
 by_cases hy:y=x
 ·subst hy
  simp[hh,Lit.sameKey]
 ·simp[hy,Lit.sameKey]
end
section
open Go.ChangeShapes Go.WideShapes Go.ChangeAt Go.RowKit Go.Maps Go.Deep
set_option maxRecDepth 100000
def pg0(a:Int):Int:=a/4096*4096
theorem split_any(a:Int)(a0:0≤a)(a1:a<4294967296)(w:World):
  Calls Tryz.prog 59 #[.int .u32 a] w fun e w'=>e=.returned (.tuple #[.int .u32 (pg0 a),.int .i64 (a%4096)])∧w'=w:=by
 have e1:Int.tmod a 4096=a%4096:=by rw[Int.tmod_eq_emod_of_nonneg a0]
 have e2:IntKind.i64.wrap (a%4096)=a%4096:=by rw[IntKind.wrap_i64];omega
 have e3:IntKind.u32.wrap (a%4096)=a%4096:=by rw[IntKind.wrap_u32];omega
 have e4:IntKind.u32.wrap (a-a%4096)=pg0 a:=by rw[IntKind.wrap_u32];unfold pg0;omega
 go_enter Tryz.func59,Tryz.ntmps59
 go_wp2
 go_ret2
 simp
theorem mnew0_any(w:World):Calls Tryz.prog 34 #[] w fun e w'=>∃p F B,e=.returned (.pointer (some ⟨p,0,none⟩))∧(∀k,F k→w.heap.size≤k)∧PAt w' p F (fun _=>0) (fun _=>false) (fun _=>none) B (.map [])∧Below w.heap.size w w':=by
 have hmm:=@run_makeMap Tryz.prog
 go_enter Tryz.func34,Tryz.ntmps34
 go_wp2
 go_ret
 refine⟨w.heap.size+1,fun k=>k=w.heap.size+1∨k=w.heap.size,w.heap.size,by simp,(by rintro k (rfl|rfl)<;>omega),?_,below_last (below_last (Below.refl _ _) _) _⟩
 refine⟨by simp,?_,fun _ _ _=>rfl,fun _=>rfl,⟨1048576,Nat.le_refl _,Nat.zero_le _,Nat.le_refl _⟩,fun _ _ h=>(by cases h),fun _ _ _ h=>(by cases h),fun _ _=>rfl,fun _=>rfl,fun _=>⟨Int.le_refl 0,by show(0:Int)<256;omega⟩,.inl rfl,.inr rfl,by omega,(by rintro k (rfl|rfl)<;>simp<;>omega)⟩
 have:=(World.ownsMap_made (H:=Unit) w Tryz.prog 22 ptrElem)
 exact this.alloc _
theorem pg0_range(a:Int)(a0:0≤a)(a1:a<4294967296):pg0 a%4096=0∧0≤pg0 a∧pg0 a<4294967296:=by unfold pg0;omega
theorem grown_any(p:Nat)(F:Nat→Prop)(g:Int→Int)(pg:Int→Bool)(pt:Int→Option Nat)(B:Nat)(D:DataW Unit)(q:Int)(q0:q%4096=0)(q1:0≤q)(q2:q<4294967296)(w:World)(hm:PAt w p F g pg pt B D):
  Calls Tryz.prog 60 #[.pointer (some ⟨p,0,none⟩),.int .u32 q] w fun e w'=>∃F' k pt' D',e=.returned (.pointer (some ⟨k,0,none⟩))∧(∀j,F' j→F j∨w.heap.size≤j)∧(∀j,F j→F' j)∧pt' q=some k∧PAt w' p F' g (setP pg q) pt' B D'∧But F w w':=by
 have hget:=hm.get q q1 q2
 have hc:=hm.cell
 have hq:q/4096*4096=q:=by omega
 cases hp:pt q with
 |some k=>
  rw[hp]at hget
  simp only[ptrOf]at hget
  have hsp:setP pg q=pg:=by
   funext x
   unfold setP
   rw[hq]
   by_cases hx:x=q
   ·subst hx;rw[hm.pgs x,hp];simp
   ·simp[hx]
  go_enter Tryz.func60,Tryz.ntmps60
  go_wp2
  go_ret
  exact⟨F,k,pt,D,by simp,fun _ h=>.inl h,fun _ h=>h,hp,by rw[hsp];exact hm,But.refl _ _⟩
 |none=>
  rw[hp]at hget
  simp only[ptrOf]at hget
  obtain⟨z,hal,hnew⟩:=alloc_page
  have hrow:=hnew w
  have hbel:Below w.heap.size w (w.alloc (.cells z 143)):=below_last (Below.refl _ _) _
  have hm1:=hm.below hbel
  have hc1:=hm1.cell
  have hsz:Maps.size D<maxLen:=by
   obtain⟨N,hN,h1,_⟩:=hm.size
   have:=cnt_le pt N
   unfold maxLen
   omega
  obtain⟨w2,hrun,hmap,hturn⟩:=hm1.map.store key_u32 Tryz.underlying113 hsz (key_page q q1 q2) (ptrElem_of (some w.heap.size))
  simp only[ptrOf]at hrun
  have hgr:=hturn.grown
  have hbut:But F w w2:=(But.of_below (F:=F) hbel).trans (But.of_grown hgr) (fun i _ h=>by subst h;exact hm.selfB)
  have hhas:Maps.has D (.int .u32 q)=false:=by rw[hm.has q,hp];rfl
  have htidy:=hm.map.tidy key_u32
  have hsize:Maps.size (D.put (.int .u32 q) (.lit (.int .i64 (codeOf (some w.heap.size)))))=Maps.size D+1:=by rw[Maps.size_put htidy,hhas];simp
  have hB:B<w.heap.size:=hm.lt _ hm.selfB
  have hPP:p<w.heap.size:=hm.lt _ hm.self
  have hP2:PAt w2 p (fun j=>F j∨j=w.heap.size) g (setP pg q) (setPt pt q w.heap.size) B (D.put (.int .u32 q) (.lit (.int .i64 (codeOf (some w.heap.size))))):=by
   have hkl:WideAt.IsKeyLit (.int .u32 q):=by simp[WideAt.IsKeyLit]
   have hb1:But (·=B) (w.alloc (.cells z 143)) w2:=But.of_grown hgr
   refine⟨hb1.cell hc1 hm.ne,by rw[hsize];exact hmap,fun x x0 x1=>?_,fun x=>?_,?_,fun x k hk=>?_,fun x x' k hk hk'=>?_,fun a ha=>?_,fun x=>?_,hm.byte,.inl hm.self,.inl hm.selfB,hm.ne,?_⟩
   ·unfold setPt
    by_cases hx:x=q
    ·subst hx
     rw[if_pos rfl]
     exact atKey_put_same (hm.map.isMap) hkl _ _
    ·rw[if_neg hx,atKey_put_other (by simpa using hx) _ _]
     exact hm.at_ x x0 x1
   ·unfold setPt
    by_cases hx:x=q
    ·subst hx
     rw[if_pos rfl]
     exact has_put_same (hm.map.isMap) hkl _
    ·rw[if_neg hx,has_put_other (by simpa using hx) _]
     exact hm.has x
   ·obtain⟨N,n0,n1,n2⟩:=hm.size
    obtain⟨y,hy⟩:∃y:Nat,q=(y:Int)*4096:=⟨(q/4096).toNat,by omega⟩
    have:=cnt_set pt y w.heap.size (by rw[←hy];exact hp) N
    rw[←hy,if_pos (by omega)]at this
    exact⟨N,n0,by rw[hsize,this];omega,n2⟩
   ·unfold setPt at hk
    by_cases hx:x=q
    ·subst hx
     rw[if_pos rfl]at hk
     injection hk with hk
     subst hk
     refine⟨⟨q0,q1,q2⟩,.inr rfl,by omega,by omega,?_⟩
     have h2:=hrow.of_block (hb1.block w.heap.size (by simp) (by omega))
     refine h2.congr (fun i hi=>?_)
     rw[hm.none_ (x+i) (by rw[show(x+(i:Int))/4096*4096=x by omega];exact hp)]
    ·rw[if_neg hx]at hk
     obtain⟨r0,r1,r2,r3,r4⟩:=hm1.page x k hk
     exact⟨r0,.inl r1,r2,r3,r4.of_block (hb1.block k (hm1.lt k r1) r3)⟩
   ·unfold setPt at hk hk'
    by_cases hx:x=q
    ·by_cases hx':x'=q
     ·rw[hx,hx']
     ·rw[if_pos hx]at hk
      rw[if_neg hx']at hk'
      injection hk with hk
      have:=hm.lt k (hm.page x' k hk').2.1
      omega
    ·rw[if_neg hx]at hk
     by_cases hx':x'=q
     ·rw[if_pos hx']at hk'
      injection hk' with hk'
      have:=hm.lt k (hm.page x k hk).2.1
      omega
     ·rw[if_neg hx']at hk'
      exact hm.apart x x' k hk hk'
   ·refine hm.none_ a ?_
    unfold setPt at ha
    split at ha
    ·cases ha
    ·exact ha
   ·unfold setP setPt
    rw[hq,hm.pgs x]
    by_cases hx:x=q
    ·simp[hx]
    ·simp[hx]
   ·have h2:=hb1.size
    rintro j (h|rfl)
    ·have:=hm.lt j h;simp at h2;omega
    ·simp at h2;omega
  go_enter Tryz.func60,Tryz.ntmps60
  clear hnew hm1 hm hmap hturn hgr
  go_wp2
  go_ret
  exact⟨_,w.heap.size,_,_,by simp,(by rintro j (h|rfl);exact .inl h;exact .inr (Nat.le_refl _)),fun _ h=>.inl h,by simp[setPt],hP2,hbut⟩
end
section
open Go.ChangeShapes Go.WideShapes Go.ChangeAt Go.RowKit Go.Maps Go.Deep
set_option maxRecDepth 100000
theorem setP_pg0(pg:Int→Bool)(a:Int):setP pg (pg0 a)=setP pg a:=by
 funext x
 unfold setP pg0
 rw[show a/4096*4096/4096*4096=a/4096*4096 by omega]
theorem slice_page(k l:Nat)(hl:l<4096)(w:World):
  (Instr.sliceAt 143 (.pointer (some ⟨k,0,none⟩)) (some (.int .i64 (l:Int))) none none).run Tryz.prog w=.ok (.slice (some ⟨k,l,none⟩) (4096-l) (4096-l)) w:=by
 have hA:Tryz.prog.arrayLen 143=4096:=by kernel_rfl
 have hE:Tryz.prog.elem 143=5:=by kernel_rfl
 have hz:(sizeOf 5).run Tryz.prog w=.ok 1 w:=by kernel_rfl
 have h:=run_sliceAt_array_l (P:=Tryz.prog) w 143 ⟨k,0,none⟩ (by rw[hA,hE];exact Tryz.underlying143) .i64 (l:Int) (by omega) (by rw[hA];omega)
 rw[h,hA,hE,hz]
 simp only[Result.andThen,slicedAt,Int.toNat_natCast]
 rw[if_neg (by omega)]
 congr 3
 unfold Addr.add
 split
 ·simp
  try omega
 ·simp
theorem wpList_copy_cells{P:Program}{w:World}{ops:Array Oper}{rest:List Oper}{o:Oper}{a:Act}{Q:Exit→Act→World→Prop}(hgd:o.guard=none)(d s:Operand)(dT sT:TypeId)
  (ho:o.op=.call { callee:=.builtin .copy,args:=#[d,s],argTypes:=#[dT,sT] }) (elem:TypeId) (hu:P.underlying dT=some (.slice elem)) (hsz:(P.info? elem).map (·.size)=some 1)
  (da sa:Addr) (dLen dCap sLen sCap:Nat) (hd:a.eval d=.slice (some da) dLen dCap) (hs:a.eval s=.slice (some sa) sLen sCap) (b off:Nat) (hda:da=⟨b,off,none⟩)
  (cs:List Value) (hn:cs.length=Nat.min sLen dLen) (hsrc:∀j v,cs[j]?=some v→w.cell? (sa.add j)=some v)
  (hc:∀j,j<cs.length→(w.cell? ⟨b,off+j,none⟩).isSome=true) (hf:∀j,j<cs.length→w.frozen? ⟨b,off+j,none⟩=false) (h1:∀v∈cs,v.oneCell'=true)
  (h:wpList P ops Q rest (a.put o.dst (goInt cs.length)) (w.setCells b off cs)):wpList P ops Q (o :: rest) a w:=by
 subst hda
 refine wpList_plain hgd fun K hK=>?_
 have hrun:=run_copy_cells (P:=P) w dT sT o.type elem b off dLen dCap sa sLen sCap cs hu hsz hn hsrc hc hf h1
 unfold Oper.wp
 simp[execOp,ho,resolve,invoke,builtin,hd,hs,hrun,Result.andThen]
 exact hK _ _ h
def bytesOf(f:Nat→Int)(c:Nat):List Value:=(List.range c).map fun j=>.int .u8 (f j)
theorem bytesOf_len(f:Nat→Int)(c:Nat):(bytesOf f c).length=c:=by simp[bytesOf]
theorem bytesOf_at{f:Nat→Int}{c j:Nat}{v:Value}(h:(bytesOf f c)[j]?=some v):j<c∧v=.int .u8 (f j):=by
 simp only[bytesOf,List.getElem?_map,Option.map_eq_some_iff]at h
 obtain⟨x,h1,rfl⟩:=h
 rw[List.getElem?_eq_some_iff]at h1
 obtain⟨h2,rfl⟩:=h1
 simp at h2 ⊢
 exact h2
theorem bytesOf_one{f:Nat→Int}{c:Nat}(v:Value)(h:v∈bytesOf f c):v.oneCell'=true:=by
 simp only[bytesOf,List.mem_map]at h
 obtain⟨j,_,rfl⟩:=h
 simp[Value.oneCell']
theorem bytesOf_succ(f:Nat→Int)(c:Nat):bytesOf f (c+1)=.int .u8 (f 0) :: bytesOf (fun j=>f (j+1)) c:=by
 simp[bytesOf,List.range_succ_eq_map,Function.comp_def]
def blitG(g:Int→Int)(x:Int)(f:Nat→Int)(c:Nat):Int→Int:=fun y=>if x≤y∧y<x+(c:Int)then f (y-x).toNat else g y
theorem blitG_zero(g:Int→Int)(x:Int)(f:Nat→Int):blitG g x f 0=g:=by
 funext y
 unfold blitG
 rw[if_neg (by omega)]
theorem blitG_head(g:Int→Int)(x:Int)(f:Nat→Int)(c:Nat):blitG (setG g x (f 0)) (x+1) (fun j=>f (j+1)) c=blitG g x f (c+1):=by
 funext y
 simp only[blitG,setG]
 by_cases h:x+1≤y∧y<x+1+(c:Int)
 ·rw[if_pos h,if_pos (by omega),show(y-x).toNat=(y-(x+1)).toNat+1 by omega]
 ·rw[if_neg h]
  by_cases h2:y=x
  ·subst h2
   rw[if_pos rfl,if_pos (by omega),show(y-y).toNat=0 by omega]
  ·rw[if_neg h2,if_neg (by omega)]
theorem blitG_tail(g:Int→Int)(x:Int)(f:Nat→Int)(c:Nat):blitG g x f (c+1)=setG (blitG g x f c) (x+(c:Int)) (f c):=by
 funext y
 simp only[blitG,setG]
 by_cases h2:y=x+(c:Int)
 ·subst h2
  rw[if_pos rfl,if_pos (by omega),show(x+(c:Int)-x).toNat=c by omega]
 ·rw[if_neg h2]
  by_cases h:x≤y∧y<x+(c:Int)
  ·rw[if_pos h,if_pos (by omega)]
  ·rw[if_neg h,if_neg (by omega)]
theorem PAt.setBytes{F:Nat→Prop}{p B:Nat}{pg:Int→Bool}{pt:Int→Option Nat}{D:DataW Unit}{q:Int}{k:Nat}(hk:pt q=some k):∀(c i:Nat) (f:Nat→Int) (w:World) (g:Int→Int),PAt w p F g pg pt B D→i+c≤4096→(∀j,j<c→0≤f j∧f j<256) →
  PAt (w.setCells k i (bytesOf f c)) p F (blitG g (q+i) f c) pg pt B D
 |0,i,f,w,g,h,_,_=>by rw[blitG_zero];exact h
 |c+1,i,f,w,g,h,hi,hf=>by
  rw[bytesOf_succ]
  have h1:=h.setByte hk i (by omega) (f 0) (hf 0 (by omega)).1 (hf 0 (by omega)).2
  have h2:=PAt.setBytes hk c (i+1) (fun j=>f (j+1)) _ _ h1 (by omega) (fun j hj=>hf (j+1) (by omega))
  rw[show q+((i+1:Nat):Int)=q+(i:Int)+1 by omega,blitG_head]at h2
  exact h2
theorem But.setCells{F:Nat→Prop}{w:World}{k:Nat}(hk:k<w.heap.size→F k):∀(cs:List Value) (i:Nat) (w':World),But F w w'→But F w (w'.setCells k i cs)
 |[],_,_,h=>h
 |v :: r,i,_,h=>But.setCells hk r (i+1) _ (h.setCell (a:=⟨k,i,none⟩) hk v)
theorem place_add(a:Int)(i c:Nat)(h:place a i+(c:Int)<4294967296):place a (i+c)=place a i+(c:Int):=by unfold place at *;omega
theorem blit_write(g:Int→Int)(a:Int)(bs:Nat→Int)(i:Nat):∀c:Nat,place a i+(c:Int)≤4294967296→blitG (writeG g a bs i) (place a i) (fun j=>bs (i+j)) c=writeG g a bs (i+c)
 |0,_=>by rw[blitG_zero];rfl
 |c+1,h=>by
  rw[blitG_tail,blit_write g a bs i c (by omega),←place_add a i c (by omega)]
  rfl
theorem setP_same(pg:Int→Bool)(x y:Int)(h:x/4096=y/4096):setP (setP pg x) y=setP pg x:=by
 funext z
 unfold setP
 rw[h]
 cases (z==y/4096*4096)<;>rfl
theorem page_write(pg:Int→Bool)(a:Int)(i:Nat):∀c:Nat,place a i%4096+((c+1:Nat):Int)≤4096→writeP pg a (i+(c+1))=setP (writeP pg a i) (place a i)
 |0,_=>rfl
 |c+1,h=>by
  have ih:=page_write pg a i c (by omega)
  have h0:0≤place a i:=by unfold place;omega
  have h1:place a i<4294967296:=by unfold place;omega
  show setP (writeP pg a (i+(c+1))) (place a (i+(c+1)))=_
  rw[ih,setP_same]
  rw[place_add a i (c+1) (by omega)]
  omega
end
end Go.Proofs.YtmdncgfheeijaaaGreat
