import Derived.Test.YtmdncgfheeijaaaGreatKVG28
namespace Go.Proofs.YtmdncgfheeijaaaGreat
open Go.ChangeShapes Go.WideShapes Go.ChangeAt Go.RowKit
set_option maxRecDepth 100000
structure CIn (w:World) (B4 B6 B7:Nat) (s:Sta) (u:World):Prop where
 b4:u.heap[B4]?=some (.cells (staL s).toArray 29 (0,0))
 b6:∃C,u.heap[B6]?=some (.cells C 29 (0,0))∧C.size=23
 b7:∃x,u.heap[B7]?=some (.cells #[x] 3 (0,0))
 but:But (fun k=>k=B6∨k=B7) w u
def CG(B6 B7:Nat)(s:Sta)(f:Int)(u u':World):Prop:=
 (u.heap[B6]?=some (.cells (staL s).toArray 29 (0,0))→u'.heap[B6]?=some (.cells (staL s).toArray 29 (0,0)))∧(u.heap[B7]?=some (.cells #[.int .i64 f] 3 (0,0))→u'.heap[B7]?=some (.cells #[.int .i64 f] 3 (0,0)))
def CV(B6 B7:Nat)(s:Sta)(f:Int):Nat→Value→World→Prop
 |0,v,_=>v=.agg (staL s).toArray
 |1,v,_=>v=.iface 122 (.int .i64 f)
 |2,v,_=>v=.int .i64 f
 |3,_,u=>u.heap[B6]?=some (.cells (staL s).toArray 29 (0,0))
 |4,_,u=>u.heap[B7]?=some (.cells #[.int .i64 f] 3 (0,0))
 |_,_,_=>True
theorem cv_stays{B6 B7:Nat}{s:Sta}{f:Int}:∀i v u u',CV B6 B7 s f i v u→CG B6 B7 s f u u'→CV B6 B7 s f i v u'
 |0,_,_,_,h,_=>h
 |1,_,_,_,h,_=>h
 |2,_,_,_,h,_=>h
 |3,_,_,_,h,g=>g.1 h
 |4,_,_,_,h,g=>g.2 h
 |_+5,_,_,_,h,_=>h
set_option maxHeartbeats 8000000
theorem catch_fault(B4 B6 B7:Nat)(s:Sta)(f:Int)(older:List PanicEntry)(w:World)(hI:CIn w B4 B6 B7 s w)(h46:B4≠B6)(h47:B4≠B7)(h67:B6≠B7):
  CallsD Tryz.prog 38 #[.pointer (some ⟨B4,0,none⟩),.pointer (some ⟨B6,0,none⟩),.pointer (some ⟨B7,0,none⟩)] (.panicking ({ v:=.iface 122 (.int .i64 f),recovered:=false } :: older)) w fun e u' w'=>
   e=.returned (.tuple #[])∧u'=.panicking ({ v:=.iface 122 (.int .i64 f),recovered:=true } :: older)∧w'.heap[B6]?=some (.cells (staL s).toArray 29 (0,0))∧w'.heap[B7]?=some (.cells #[.int .i64 f] 3 (0,0))∧But (fun k=>k=B6∨k=B7) w w':=by
 refine callsD_of_wpS Tryz.func38 rfl fun c₀ cs hu=>?_
 rw[show(#[Value.pointer (some ⟨B4,0,none⟩),.pointer (some ⟨B6,0,none⟩),.pointer (some ⟨B7,0,none⟩)]++Array.replicate ((Tryz.f38).ntmps-(#[Value.pointer (some ⟨B4,0,none⟩),.pointer (some ⟨B6,0,none⟩),.pointer (some ⟨B7,0,none⟩)]:Array Value).size) undef)=#[.pointer (some ⟨B4,0,none⟩),.pointer (some ⟨B6,0,none⟩),.pointer (some ⟨B7,0,none⟩),undef,undef,undef,undef,undef,undef,undef]by rw[Tryz.ntmps38];rfl]
 have HI:=Lib.hid hI
 clear hI
 apply wpS_seq
 apply wpS_region
 simp[wpOpsS,go_sem,recoverD,hu,Exit.thenS]
 apply wpS_seq
 apply wpS_region
 simp[wpOpsS,go_sem,Exit.thenS]
 refine wpS_cond (t:=true) (by simp[Act.eval]) ?_
 simp only[if_true]
 refine wpS_of_wp ?_
 generalize hQ:(fun(e:Exit) (a':Act) (w':World)=>bodyPostS _ _ _ _ _ e a' _ w')=Q'
 have HQ:=Lib.hid hQ
 clear hQ hu
 refine wp_region_vals (by kernel_rfl) (fun n=>n==3 || n==4) (by kernel_rfl) (CIn w B4 B6 B7 s) (CG B6 B7 s f) (CV B6 B7 s f) cv_stays (fun _=>⟨id,id⟩) ⟨HI.out.b4,HI.out.b6,HI.out.b7,HI.out.but.drew⟩ ?_ ?_
 ·intro n op q u ho hinv hsz hbase hdep
  have hn:n<5:=(Array.getElem?_eq_some_iff.1 ho).1
  have b0:q.tmps.getD 0 undef=.pointer (some ⟨B4,0,none⟩):=hbase 0 (by kernel_rfl)
  have b1:q.tmps.getD 1 undef=.pointer (some ⟨B6,0,none⟩):=hbase 1 (by kernel_rfl)
  have b2:q.tmps.getD 2 undef=.pointer (some ⟨B7,0,none⟩):=hbase 2 (by kernel_rfl)
  have b3:q.tmps.getD 3 undef=.iface 122 (.int .i64 f):=hbase 3 (by kernel_rfl)
  clear hbase hsz
  rcases(show n=0∨n=1∨n=2∨n=3∨n=4 by omega)with rfl|rfl|rfl|rfl|rfl
  ·cases ho
   have hl:=load_range (P:=Tryz.prog) (cs:=staL s) 29 _ Tryz.underlying29 rfl info_sta (range_in13 hinv.b4 0 _ rfl)
   exact wp_val (by simp[execOp,Act.eval,b0,Instr.loadAt,Instr.sureAddr,hl]<;>rfl) ⟨_,rfl,hinv,⟨id,id⟩,rfl⟩
  ·cases ho
   exact wp_val (by simp[execOp,Act.eval,b3,go_sem]<;>rfl) ⟨_,rfl,hinv,⟨id,id⟩,rfl⟩
  ·cases ho
   have e8:q.tmps.getD 8 undef=.iface 122 (.int .i64 f):=hdep 1 (by kernel_rfl)
   refine wp_call (by simp[execOp,Act.eval,e8,go_sem]<;>rfl) ((ended_any f u).mono ?_)
   rintro e u' ⟨rfl,rfl⟩
   exact⟨_,rfl,_,rfl,hinv,⟨id,id⟩,rfl⟩
  ·cases ho
   have e7:q.tmps.getD 7 undef=.agg (staL s).toArray:=hdep 0 (by kernel_rfl)
   obtain⟨C,hC,hz⟩:=hinv.b6
   refine wp_store_mid 29 (.tmp 1) (.tmp 7) rfl B6 0 (staL s).toArray b1 e7 (there_block hC 0 23 (by omega)) info_sta (sta_one s) ?_
   have hy:=block_setCells (T:=29) (staL s).toArray.toList 0 u C hC
   rw[setL_wholeA s hz]at hy
   have hb:But (·=B6) u (u.setCells B6 0 (staL s).toArray.toList):=(But.refl (·=B6) u).cells (fun _=>rfl) _ _
   have k:∀{j:Nat} {x:Obj},j≠B6→u.heap[j]?=some x→(u.setCells B6 0 (staL s).toArray.toList).heap[j]?=some x:=fun{j x} hj h=>(hb.block j (Array.getElem?_eq_some_iff.1 h).1 hj).trans h
   obtain⟨x,hx⟩:=hinv.b7
   exact⟨undef,rfl,⟨k h46 hinv.b4,⟨_,hy,rfl⟩,⟨x,k (fun e=>h67 e.symm) hx⟩,hinv.but.trans hb (fun i _ e=>.inl e)⟩,⟨fun _=>hy,fun h=>k (fun e=>h67 e.symm) h⟩,hy⟩
  ·cases ho
   have e9:q.tmps.getD 9 undef=.int .i64 f:=hdep 2 (by kernel_rfl)
   obtain⟨x,hx⟩:=hinv.b7
   have hc:=(cell_block hx 0).1
   have hz:=(cell_block hx 0).2
   have hc:u.cell? ⟨B7,0,none⟩=some x:=hc
   refine wp_skip (u':=u.setCell ⟨B7,0,none⟩ (.int .i64 f)) (by simp[execOp,Act.eval,b2,e9,hc,hz,go_sem]<;>rfl) ?_
   have hy:(u.setCell ⟨B7,0,none⟩ (.int .i64 f)).heap[B7]?=some (.cells #[.int .i64 f] 3 (0,0)):=block_setCell hx 0 _
   have hb:But (·=B7) u (u.setCell ⟨B7,0,none⟩ (.int .i64 f)):=(But.refl (·=B7) u).setCell (a:=⟨B7,0,none⟩) (fun _=>rfl) _
   have k:∀{j:Nat} {y:Obj},j≠B7→u.heap[j]?=some y→(u.setCell ⟨B7,0,none⟩ (.int .i64 f)).heap[j]?=some y:=fun{j y} hj h=>(hb.block j (Array.getElem?_eq_some_iff.1 h).1 hj).trans h
   obtain⟨C,hC,hz6⟩:=hinv.b6
   exact⟨undef,rfl,⟨k h47 hinv.b4,⟨C,k h67 hC,hz6⟩,⟨_,hy⟩,hinv.but.trans hb (fun i _ e=>.inr e)⟩,⟨fun h=>k h67 h,fun _=>hy⟩,hy⟩
 ·intro q u hinv hV
  have h6:u.heap[B6]?=some (.cells (staL s).toArray 29 (0,0)):=hV 3 (by decide)
  have h7:u.heap[B7]?=some (.cells #[.int .i64 f] 3 (0,0)):=hV 4 (by decide)
  have hb:=hinv.but
  generalize hc:laid _ q _ _=fr
  have bd:fr.defers=[]:=by rw[←hc];kernel_rfl
  clear hc hV hinv
  rw[←HQ.out]
  cases c₀
  simp[bodyPostS,results,Tryz.results38,bd,h6,h7,hb]
theorem catch_none(B4 B6 B7:Nat)(w:World):
  CallsD Tryz.prog 38 #[.pointer (some ⟨B4,0,none⟩),.pointer (some ⟨B6,0,none⟩),.pointer (some ⟨B7,0,none⟩)] .returning w fun e u' w'=>e=.returned (.tuple #[])∧u'=.returning∧w'=w:=by
 refine callsD_of_wpS Tryz.func38 rfl fun c₀ cs hu=>?_
 rw[show(#[Value.pointer (some ⟨B4,0,none⟩),.pointer (some ⟨B6,0,none⟩),.pointer (some ⟨B7,0,none⟩)]++Array.replicate ((Tryz.f38).ntmps-(#[Value.pointer (some ⟨B4,0,none⟩),.pointer (some ⟨B6,0,none⟩),.pointer (some ⟨B7,0,none⟩)]:Array Value).size) undef)=#[.pointer (some ⟨B4,0,none⟩),.pointer (some ⟨B6,0,none⟩),.pointer (some ⟨B7,0,none⟩),undef,undef,undef,undef,undef,undef,undef]by rw[Tryz.ntmps38];rfl]
 apply wpS_seq
 apply wpS_region
 simp[wpOpsS,go_sem,recoverD,hu,Exit.thenS]
 apply wpS_seq
 apply wpS_region
 simp[wpOpsS,go_sem,Exit.thenS]
 refine wpS_cond (t:=false) (by simp[Act.eval]) ?_
 simp only[Bool.false_eq_true,if_false]
 refine wpS_of_wp (Go.wp_skip ?_)
 cases c₀
 simp_all [bodyPostS,results,Tryz.results38]
def OpdIn(o:Opd):Prop:=o.kind=3∨(0≤o.reg∧o.reg≤7)
theorem let_in{n:Int}{c:UInt8}{o:Opd}(h:letP n c o):OpdIn o:=by
 have hr:∀m,RgD m o→OpdIn o:=fun m ⟨r,r0,r1,e⟩=>by
  rw[e]
  refine .inr ?_
  unfold smallO
  split
  ·exact⟨r0,by show r≤7;omega⟩
  ·exact⟨r0,by show r≤7;omega⟩
 rcases h with⟨_,h|h⟩|⟨_,h⟩|⟨_,h⟩|⟨_,h⟩|⟨_,h⟩|⟨_,h⟩|⟨_,h⟩
 ·exact hr _ h
 ·exact .inl h.1
 ·exact hr _ h
 ·exact hr _ h
 ·rw[h];exact .inr ⟨by decide,by decide⟩
 ·rw[h];exact .inr ⟨by decide,by decide⟩
 ·exact .inl h.1
 ·obtain⟨v,_,_,e⟩:=h
  rw[e]
  exact .inr ⟨Int.le_refl _,by show(0:Int)≤7;decide⟩
theorem AluD.opdIn{I:Ins}(h:AluD I):OpdIn I.a∧OpdIn I.b:=by
 obtain⟨how,_,hp⟩:=h.how
 have hn:∀o:Opd,o=noneO→OpdIn o:=fun o e=>by rw[e];exact .inr ⟨by decide,by decide⟩
 match how,hp with
 |[],⟨h1,h2⟩=>exact⟨hn _ h1,hn _ h2⟩
 |[_],⟨h1,h2⟩=>exact⟨let_in h1,hn _ h2⟩
 |_ :: _ :: _,⟨h1,h2⟩=>exact⟨let_in h1,let_in h2⟩
theorem aldV_eq{o:Opd}(h:OpdIn o)(g:Int→Int)(d:Sg)(s:Sta)(n:Int):aldV g d s o n=ldA g d s o n:=by
 unfold aldV ldA
 by_cases hk:o.kind=3
 ·rw[if_pos hk,if_pos hk]
 ·rw[if_neg hk,if_neg hk]
  exact getG_in s o (h.resolve_left hk)
theorem aldE_eq(d:Sg)(s:Sta)(o:Opd)(n:Int):(aldE d s o n==0)=ldO d s o n:=by
 unfold aldE ldO
 by_cases hk:o.kind=3
 ·rw[if_pos hk,if_pos hk]
 ·rw[if_neg hk,if_neg hk];rfl
theorem astE_eq(d:Sg)(s:Sta)(o:Opd)(n:Int):(astE d s o n==0)=putO d s o n:=by
 unfold astE putO
 by_cases hk:o.kind=3
 ·rw[if_pos hk,if_pos hk]
 ·rw[if_neg hk,if_neg hk];rfl
theorem addV_cut(x y n:Int)(c:Bool):addV (cut x n) (cut y n) n c=addV x y n c:=by unfold addV;rw[cut_cut,cut_cut]
theorem addC_cut(x y n:Int)(c:Bool):addC (cut x n) (cut y n) n c=addC x y n c:=by unfold addC;rw[cut_cut,cut_cut]
theorem addO_cut(x y n:Int)(c:Bool):addO (cut x n) (cut y n) n c=addO x y n c:=by unfold addO;rw[cut_cut,cut_cut,addV_cut]
theorem subV_cut(x y n:Int)(c:Bool):subV (cut x n) (cut y n) n c=subV x y n c:=by unfold subV;rw[cut_cut,cut_cut]
theorem subC_cut(x y n:Int)(c:Bool):subC (cut x n) (cut y n) n c=subC x y n c:=by unfold subC;rw[cut_cut,cut_cut]
theorem cut_of_four(v:Int)(v0:0≤v)(v1:v<4294967296):cut v 4=v:=by
 show v%4294967296=v
 omega
section
variable {g:Int→Int} {dd:Sg} {s t:Sta} {o:Opd} {n v v':Int}
/-! operands whose places are pinned -/
theorem of_pin(h:o.kind=3):ofF t (pinF s o)=ofF s o:=by
 unfold pinF
 rw[if_pos h]
 have h0:=ofF_lo s o
 have h1:=ofF_hi s o
 show(ofF s o+regN t (-1)+regN t (-1)*0)%4294967296=ofF s o
 have e:regN t (-1)=0:=by unfold regN;rw[if_neg (by omega)]
 rw[e]
 omega
theorem pin_kind:(pinF s o).kind=o.kind:=by
 unfold pinF
 by_cases h:o.kind=3
 ·rw[if_pos h];exact h.symm
 ·rw[if_neg h]
theorem pin_not(h:¬o.kind=3):pinF s o=o:=by unfold pinF;rw[if_neg h]
theorem pin_ldE:aldE dd t (pinF s o) n=aldE dd s o n:=by
 unfold aldE
 rw[pin_kind]
 by_cases h:o.kind=3
 ·rw[if_pos h,if_pos h,of_pin h]
 ·rw[if_neg h,if_neg h]
theorem pin_ldV:aldV g dd s (pinF s o) n=aldV g dd s o n:=by
 unfold aldV
 rw[pin_kind]
 by_cases h:o.kind=3
 ·rw[if_pos h,if_pos h,of_pin h]
 ·rw[if_neg h,if_neg h,pin_not h]
theorem pin_stE:astE dd t (pinF s o) n=astE dd s o n:=by
 unfold astE
 rw[pin_kind]
 by_cases h:o.kind=3
 ·rw[if_pos h,if_pos h,of_pin h]
 ·rw[if_neg h,if_neg h]
theorem pin_stG:astG g dd t (pinF s o) n v=putG g dd s o n v:=by
 unfold astG putG
 rw[pin_kind]
 by_cases h:o.kind=3
 ·rw[if_pos h,if_pos h,of_pin h]
 ·rw[if_neg h,if_neg h]
theorem pin_stS:astS t (pinF s o) v=putS t o v:=by
 unfold astS putS
 rw[pin_kind]
 by_cases h:o.kind=3
 ·rw[if_pos h,if_pos h]
 ·rw[if_neg h,if_neg h,pin_not h]
theorem ld_iff:aldE dd s o n=0↔ldO dd s o n=true:=by rw[←aldE_eq];exact beq_iff_eq.symm
theorem st_iff:astE dd s o n=0↔putO dd s o n=true:=by rw[←astE_eq];exact beq_iff_eq.symm
/-! what is stored of a number are its lowest bytes -/
def PlD(n:Int)(o:Opd):Prop:=RgD n o∨MmD o
theorem writeG_same(g:Int→Int)(a:Int)(f f':Nat→Int):∀n:Nat,(∀i,i<n→f i=f' i)→writeG g a f n=writeG g a f' n
 |0,_=>rfl
 |n+1,h=>by
  unfold writeG
  rw[writeG_same g a f f' n fun i hi=>h i (by omega),h n (by omega)]
theorem put_cut15(hn:n=1∨n=4)(hp:PlD n o)(h:cut v n=cut v' n):putS t o v=putS t o v'∧putG g dd s o n v=putG g dd s o n v':=by
 unfold cut at h
 have h1:n=1→v%256=v'%256:=fun e=>by
  rw[e,show wid 1=8 from rfl]at h
  exact h
 have h4:n=4→v%4294967296=v'%4294967296:=fun e=>by
  rw[e,show wid 4=32 from rfl]at h
  exact h
 constructor
 ·unfold putS
  by_cases hk:o.kind=3
  ·rw[if_pos hk,if_pos hk]
  ·rw[if_neg hk,if_neg hk]
   obtain⟨r,r0,r1,e⟩:=hp.resolve_right (fun q=>hk q.1)
   rw[e]
   unfold smallO
   rcases hn with rfl|rfl
   ·have e1:∀w,setF t (if(1:Int)=1 then regO 2 r else regO 1 r) w={ t with r:=putN t.r (r%4).toNat (byteF (t.r (r%4).toNat) w (decide (4≤r))) }:=fun w=>by
     rw[if_pos rfl]
     exact(if_pos (show 0≤r∧r≤7 from⟨r0,by omega⟩)).trans ((if_neg (show ¬(2:Int)=1 by decide)).trans (if_pos rfl))
    have e8:byteF (t.r (r%4).toNat) v (decide (4≤r))=byteF (t.r (r%4).toNat) v' (decide (4≤r)):=by unfold byteF;rw[h1 rfl]
    rw[e1,e1,e8]
   ·have e4:∀w,setF t (if(4:Int)=1 then regO 2 r else regO 1 r) w={ t with r:=putN t.r r.toNat (w%4294967296) }:=fun w=>by
     rw[if_neg (by decide)]
     exact(if_pos (show 0≤r∧r≤7 from⟨r0,by omega⟩)).trans (if_pos rfl)
    rw[e4,e4,h4 rfl]
 ·unfold putG
  by_cases hk:o.kind=3
  ·rw[if_pos hk,if_pos hk]
   unfold stG
   have e:writeG g (dd.b+ofF s o) (byteOf v) (widN n)=writeG g (dd.b+ofF s o) (byteOf v') (widN n):=by
    refine writeG_same _ _ _ _ _ fun i hi=>?_
    unfold byteOf
    rcases hn with rfl|rfl
    ·have:i=0:=by have:widN 1=1:=rfl;omega
     subst this
     have:=h1 rfl
     omega
    ·have:=h4 rfl
     have:widN 4=4:=rfl
     rcases(show i=0∨i=1∨i=2∨i=3 by omega)with rfl|rfl|rfl|rfl<;>omega
   rw[e]
  ·rw[if_neg hk,if_neg hk]
/-! numbers cut -/
theorem subO_cut(x y n:Int)(c:Bool):subO (cut x n) (cut y n) n c=subO x y n c:=by unfold subO;rw[cut_cut,cut_cut,subV_cut]
theorem cut_nat(n:Int)(a:Nat):cut (a:Int) n=((a%2^wid n:Nat):Int):=by unfold cut;simp
theorem cut_and(x y:Int)(x0:0≤x)(x1:x<4294967296)(y0:0≤y)(y1:y<4294967296):cut (bits .and .u32 (cut x n) (cut y n)) n=cut (bits .and .u32 x y) n:=by
 rw[u32_and _ _ (cut_lo _ _) (cut_hi _ _) (cut_lo _ _) (cut_hi _ _),u32_and _ _ x0 x1 y0 y1]
 obtain⟨X,rfl⟩:=Int.eq_ofNat_of_zero_le x0
 obtain⟨Y,rfl⟩:=Int.eq_ofNat_of_zero_le y0
 simp only[cut_nat,Int.toNat_natCast]
 rw[Nat.and_mod_two_pow,Nat.and_mod_two_pow,Nat.mod_mod,Nat.mod_mod]
theorem cut_or(x y:Int)(x0:0≤x)(x1:x<4294967296)(y0:0≤y)(y1:y<4294967296):cut (bits .or .u32 (cut x n) (cut y n)) n=cut (bits .or .u32 x y) n:=by
 rw[u32_or _ _ (cut_lo _ _) (cut_hi _ _) (cut_lo _ _) (cut_hi _ _),u32_or _ _ x0 x1 y0 y1]
 obtain⟨X,rfl⟩:=Int.eq_ofNat_of_zero_le x0
 obtain⟨Y,rfl⟩:=Int.eq_ofNat_of_zero_le y0
 simp only[cut_nat,Int.toNat_natCast]
 rw[Nat.or_mod_two_pow,Nat.or_mod_two_pow,Nat.mod_mod,Nat.mod_mod]
theorem cut_xor(x y:Int)(x0:0≤x)(x1:x<4294967296)(y0:0≤y)(y1:y<4294967296):cut (bits .xor .u32 (cut x n) (cut y n)) n=cut (bits .xor .u32 x y) n:=by
 rw[u32_xor _ _ (cut_lo _ _) (cut_hi _ _) (cut_lo _ _) (cut_hi _ _),u32_xor _ _ x0 x1 y0 y1]
 obtain⟨X,rfl⟩:=Int.eq_ofNat_of_zero_le x0
 obtain⟨Y,rfl⟩:=Int.eq_ofNat_of_zero_le y0
 simp only[cut_nat,Int.toNat_natCast]
 rw[Nat.xor_mod_two_pow,Nat.xor_mod_two_pow,Nat.mod_mod,Nat.mod_mod]
theorem cut_xor1(a x:Int)(a0:0≤a)(a1:a<4294967296)(x0:0≤x)(x1:x<4294967296):cut (bits .xor .u32 a (cut x n)) n=cut (bits .xor .u32 a x) n:=by
 rw[←cut_xor a (cut x n) a0 a1 (cut_lo _ _) (cut_hi _ _),←cut_xor a x a0 a1 x0 x1,cut_cut]
theorem stepV_cut(x i:Int):stepV (cut x n) n i=stepV x n i:=by
 unfold stepV addV subV
 rw[cut_cut]
theorem stepO_cut(x i:Int):stepO (cut x n) n i=stepO x n i:=by
 unfold stepO addO subO addV subV
 rw[cut_cut]
theorem sgn_cut(x:Int):sgn (cut x n) n=sgn x n:=by unfold sgn;rw[cut_cut]
/-! flags and stores -/
theorem put_fl(c p z h q d:Bool)(w:Int):putS (fl s c p z h q d) o w=fl (putS s o w) c p z h q d:=by
 unfold putS fl setF
 dsimp only
 repeat' split
 all_goals rfl
theorem put_d(w:Int):(putS s o w).d=s.d:=by
 unfold putS setF
 repeat' split
 all_goals rfl
end
/-! what the operands are,by the operation -/
theorem let_some{n:Int}{c:UInt8}{o:Opd}(h:letP n c o):o.kind≠0:=by
 have hr:∀m,RgD m o→o.kind≠0:=fun m ⟨r,_,_,e⟩=>by
  rw[e]
  unfold smallO
  split
  ·show(2:Int)≠0;decide
  ·show(1:Int)≠0;decide
 have hm:MmD o→o.kind≠0:=fun h=>by have:=h.1;omega
 rcases h with⟨_,h|h⟩|⟨_,h⟩|⟨_,h⟩|⟨_,h⟩|⟨_,h⟩|⟨_,h⟩|⟨_,h⟩
 ·exact hr _ h
 ·exact hm h
 ·exact hr _ h
 ·exact hr _ h
 ·rw[h];decide
 ·rw[h];decide
 ·exact hm h
 ·obtain⟨v,_,_,e⟩:=h
  rw[e]
  show(4:Int)≠0
  decide
theorem let_rg{n:Int}{c:UInt8}{o:Opd}(h:letP n c o)(hc:c=71∨c=97∨c=114):RgD n o:=by
 rcases h with⟨e,_⟩|⟨_,h⟩|⟨e,_⟩|⟨e,_⟩|⟨e,_⟩|⟨e,_⟩|⟨e,_⟩
 ·rw[e]at hc;exact absurd hc (by decide)
 ·exact h
 ·rw[e]at hc;exact absurd hc (by decide)
 ·rw[e]at hc;exact absurd hc (by decide)
 ·rw[e]at hc;exact absurd hc (by decide)
 ·rw[e]at hc;exact absurd hc (by decide)
 ·rcases e with e|e<;>(rw[e]at hc;exact absurd hc (by decide))
theorem let_rg4{n:Int}{o:Opd}(h:letP n 103 o):RgD 4 o:=by
 rcases h with⟨e,_⟩|⟨e,_⟩|⟨_,h⟩|⟨e,_⟩|⟨e,_⟩|⟨e,_⟩|⟨e,_⟩
 ·exact absurd e (by decide)
 ·exact absurd e (by decide)
 ·exact h
 ·exact absurd e (by decide)
 ·exact absurd e (by decide)
 ·exact absurd e (by decide)
 ·exact absurd e (by decide)
theorem let_pl{n:Int}{c:UInt8}{o:Opd}(h:letP n c o)(hc:c=69∨c=71∨c=97∨c=114∨c=109):PlD n o:=by
 rcases h with⟨_,h⟩|⟨_,h⟩|⟨e,_⟩|⟨e,_⟩|⟨e,_⟩|⟨_,h⟩|⟨e,_⟩
 ·exact h
 ·exact .inl h
 ·rw[e]at hc;exact absurd hc (by decide)
 ·rw[e]at hc;exact absurd hc (by decide)
 ·rw[e]at hc;exact absurd hc (by decide)
 ·exact .inr h
 ·rcases e with e|e<;>(rw[e]at hc;exact absurd hc (by decide))
section
variable {I:Ins}
theorem frm_two(hI:AluD I)(h:(1≤I.op∧I.op≤9)∨I.op=18∨I.op=22∨(26≤I.op∧I.op≤30)):(I.size=1∨I.size=4)∧PlD I.size I.a∧I.b.kind≠0:=by
 obtain⟨how,hA,hp⟩:=hI.how
 have key:(I.size=1∨I.size=4)∧∃a b l,how=a :: b :: l∧(a=69∨a=71∨a=97∨a=114∨a=109):=by
  unfold aluH at hA
  rcases(show(1≤I.op∧I.op≤8)∨I.op=9∨I.op=18∨I.op=22∨(26≤I.op∧I.op≤30)by omega)with h|h|h|h|h
  ·rw[if_pos h]at hA
   simp only[List.contains_cons,Bool.and_eq_true,Bool.or_eq_true,beq_iff_eq,List.contains_nil,Bool.false_eq_true,or_false]at hA
   refine⟨hA.1,?_⟩
   rcases hA.2 with(e|e|e|e)|⟨_,e⟩<;>exact⟨_,_,_,e,by decide⟩
  ·rw[if_neg (by omega),if_pos h]at hA
   simp only[List.contains_cons,Bool.and_eq_true,Bool.or_eq_true,beq_iff_eq,List.contains_nil,Bool.false_eq_true,or_false]at hA
   refine⟨hA.1,?_⟩
   rcases hA.2 with e|e|e<;>exact⟨_,_,_,e,by decide⟩
  ·rw[if_neg (by omega),if_neg (by omega),if_neg (by omega),if_neg (by omega),if_neg (by omega),if_pos h]at hA
   simp only[List.contains_cons,Bool.and_eq_true,Bool.or_eq_true,beq_iff_eq,List.contains_nil,Bool.false_eq_true,or_false]at hA
   refine⟨hA.1,?_⟩
   rcases hA.2 with e|e|e|e|e|e<;>exact⟨_,_,_,e,by decide⟩
  ·rw[if_neg (by omega),if_neg (by omega),if_neg (by omega),if_neg (by omega),if_neg (by omega),if_neg (by omega),if_neg (by omega),if_neg (by omega),if_pos h]at hA
   simp only[Bool.and_eq_true,Bool.or_eq_true,beq_iff_eq]at hA
   rcases hA with⟨e1,e⟩|⟨e1,e⟩
   ·exact⟨.inr e1,_,_,_,e,by decide⟩
   ·exact⟨e1,_,_,_,e,by decide⟩
  ·rw[if_neg (by omega),if_neg (by omega),if_neg (by omega),if_neg (by omega),if_neg (by omega),if_neg (by omega),if_neg (by omega),if_neg (by omega),if_neg (by omega),if_neg (by omega),if_pos h]at hA
   simp only[List.contains_cons,Bool.and_eq_true,Bool.or_eq_true,beq_iff_eq,List.contains_nil,Bool.false_eq_true,or_false]at hA
   refine⟨.inr hA.1,?_⟩
   rcases hA.2 with e|e|e<;>exact⟨_,_,_,e,by decide⟩
 obtain⟨hs,a,b,l,rfl,ha⟩:=key
 exact⟨hs,let_pl hp.1 ha,let_some hp.2⟩
theorem frm_x(hI:AluD I)(h:I.op=22):RgD I.size I.b:=by
 obtain⟨how,hA,hp⟩:=hI.how
 unfold aluH at hA
 rw[if_neg (by omega),if_neg (by omega),if_neg (by omega),if_neg (by omega),if_neg (by omega),if_neg (by omega),if_neg (by omega),if_neg (by omega),if_pos h]at hA
 simp only[Bool.and_eq_true,Bool.or_eq_true,beq_iff_eq]at hA
 rcases hA with⟨_,rfl⟩|⟨_,rfl⟩
 ·exact let_rg hp.2 (by decide)
 ·exact let_rg hp.2 (by decide)
theorem frm_sh(hI:AluD I)(h:26≤I.op∧I.op≤30):I.size=4:=by
 obtain⟨how,hA,hp⟩:=hI.how
 unfold aluH at hA
 rw[if_neg (by omega),if_neg (by omega),if_neg (by omega),if_neg (by omega),if_neg (by omega),if_neg (by omega),if_neg (by omega),if_neg (by omega),if_neg (by omega),if_neg (by omega),if_pos h]at hA
 simp only[Bool.and_eq_true,beq_iff_eq]at hA
 exact hA.1
theorem alu_one15(hI:AluD I)(h:I.op=10∨I.op=11∨(12≤I.op∧I.op≤15)∨I.op=16∨I.op=17∨I.op=35):(I.size=1∨I.size=4)∧PlD I.size I.a∧I.b=noneO:=by
 obtain⟨how,hA,hp⟩:=hI.how
 have key:(I.size=1∨I.size=4)∧∃a,how=[a]∧(a=69∨a=71∨a=97∨a=114∨a=109):=by
  unfold aluH at hA
  rcases(show(I.op=10∨I.op=11)∨(12≤I.op∧I.op≤15)∨(I.op=16∨I.op=17)∨I.op=35 by omega)with h|h|h|h
  ·rw[if_neg (by omega),if_neg (by omega),if_pos h]at hA
   simp only[Bool.and_eq_true,Bool.or_eq_true,beq_iff_eq]at hA
   exact⟨hA.1,_,hA.2,by decide⟩
  ·rw[if_neg (by omega),if_neg (by omega),if_neg (by omega),if_pos h]at hA
   simp only[Bool.and_eq_true,beq_iff_eq]at hA
   exact⟨.inr hA.1,_,hA.2,by decide⟩
  ·rw[if_neg (by omega),if_neg (by omega),if_neg (by omega),if_neg (by omega),if_pos h]at hA
   simp only[Bool.and_eq_true,Bool.or_eq_true,beq_iff_eq]at hA
   rcases hA with⟨e1,e⟩|⟨e1,e⟩
   ·exact⟨.inr e1,_,e,by decide⟩
   ·exact⟨e1,_,e,by decide⟩
  ·rw[if_neg (by omega),if_neg (by omega),if_neg (by omega),if_neg (by omega),if_neg (by omega),if_neg (by omega),if_neg (by omega),if_neg (by omega),if_neg (by omega),if_neg (by omega),if_neg (by omega),if_pos h]at hA
   simp only[Bool.and_eq_true,beq_iff_eq]at hA
   exact⟨.inl hA.1,_,hA.2,by decide⟩
 obtain⟨hs,a,rfl,ha⟩:=key
 exact⟨hs,let_pl hp.1 ha,hp.2⟩
theorem frm_div(hI:AluD I)(h:12≤I.op∧I.op≤15):I.size=4:=by
 obtain⟨how,hA,hp⟩:=hI.how
 unfold aluH at hA
 rw[if_neg (by omega),if_neg (by omega),if_neg (by omega),if_pos h]at hA
 simp only[Bool.and_eq_true,beq_iff_eq]at hA
 exact hA.1
theorem frm_wide(hI:AluD I)(h:I.op=19∨I.op=20∨I.op=21∨I.op=25∨I.op=36):RgD 4 I.a∧I.b.kind≠0∧(I.op=21∨I.op=25∨I.op=36→I.size=4):=by
 obtain⟨how,hA,hp⟩:=hI.how
 unfold aluH at hA
 rcases(show(I.op=19∨I.op=20)∨I.op=21∨I.op=25∨I.op=36 by omega)with h|h|h|h
 ·rw[if_neg (by omega),if_neg (by omega),if_neg (by omega),if_neg (by omega),if_neg (by omega),if_neg (by omega),if_pos h]at hA
  simp only[Bool.and_eq_true,beq_iff_eq]at hA
  obtain⟨_,rfl⟩:=hA
  exact⟨let_rg4 hp.1,let_some hp.2,fun e=>by omega⟩
 ·rw[if_neg (by omega),if_neg (by omega),if_neg (by omega),if_neg (by omega),if_neg (by omega),if_neg (by omega),if_neg (by omega),if_pos h]at hA
  simp only[Bool.and_eq_true,beq_iff_eq]at hA
  obtain⟨hs,rfl⟩:=hA
  exact⟨by have:=let_rg hp.1 (by decide);rwa[hs]at this,let_some hp.2,fun _=>hs⟩
 ·rw[if_neg (by omega),if_neg (by omega),if_neg (by omega),if_neg (by omega),if_neg (by omega),if_neg (by omega),if_neg (by omega),if_neg (by omega),if_neg (by omega),if_pos h]at hA
  simp only[List.contains_cons,Bool.and_eq_true,Bool.or_eq_true,beq_iff_eq,List.contains_nil,Bool.false_eq_true,or_false]at hA
  obtain⟨hs,hA⟩:=hA
  rcases hA with rfl|rfl|rfl<;>exact⟨by have:=let_rg hp.1 (by decide);rwa[hs]at this,let_some hp.2,fun _=>hs⟩
 ·rw[if_neg (by omega),if_neg (by omega),if_neg (by omega),if_neg (by omega),if_neg (by omega),if_neg (by omega),if_neg (by omega),if_neg (by omega),if_neg (by omega),if_neg (by omega),if_neg (by omega),if_neg (by omega),if_pos h]at hA
  simp only[Bool.and_eq_true,beq_iff_eq]at hA
  obtain⟨hs,rfl⟩:=hA
  exact⟨by have:=let_rg hp.1 (by decide);rwa[hs]at this,let_some hp.2,fun _=>hs⟩
end
def AgreeM(g:Int→Int)(dd:Sg)(s:Sta)(I:Ins)(M:Out):Prop:=M.e=aluE g dd s I∧M.g=aluG g dd s I∧(M.e=0→M.t=AluT g dd s I)
def Calm(s:Sta)(I:Ins):Prop:=soleB I.op=false∧isWide I.op=false∧¬I.op=22∧dirB s I.op=s.d
section
variable {g:Int→Int} {dd:Sg} {s:Sta} {I:Ins} {M:Out}
theorem agree_sole(h:soleB I.op=true)(he:M.e=0)(hg:M.g=g)(ht:M.t={ soleT s I with d:=dirB s I.op }):AgreeM g dd s I M:=by
 have e:aluE g dd s I=0:=by unfold aluE;rw[if_pos h]
 refine⟨he.trans e.symm,?_,fun _=>?_⟩
 ·unfold aluG;rw[if_pos h];exact hg
 ·unfold AluT aluT
  rw[if_pos e,if_pos h]
  exact ht
theorem agree_bad(h:soleB I.op=false)(ho:okA dd s I=false)(t:Sta):AgreeM g dd s I ⟨2,t,g⟩:=by
 have h1:¬soleB I.op=true:=by rw[h];decide
 have h2:¬okA dd s I=true:=by rw[ho];decide
 refine⟨?_,?_,fun e=>absurd e (show ¬(2:Int)=0 by decide)⟩
 ·unfold aluE;rw[if_neg h1,if_neg h2]
 ·unfold aluG;rw[if_neg h1,if_neg h2]
theorem agree_done(h:soleB I.op=false)(ho:okA dd s I=true)(he:M.e=doneE dd s I (xA g dd s I) (yA g dd s I))(hg:M.g=doneG g dd s I (xA g dd s I) (yA g dd s I))(ht:M.e=0→M.t={ doneT dd s I (xA g dd s I) (yA g dd s I)with d:=dirB s I.op }):AgreeM g dd s I M:=by
 have h1:¬soleB I.op=true:=by rw[h];decide
 have e:aluE g dd s I=M.e:=by unfold aluE;rw[if_neg h1,if_pos ho];exact he.symm
 refine⟨e.symm,?_,fun z=>?_⟩
 ·unfold aluG;rw[if_neg h1,if_pos ho];exact hg
 ·unfold AluT aluT
  rw[if_pos (e.trans z),if_neg h1,if_pos ho]
  exact ht z
theorem keep_eq{o:Opd}{v:Int}{c p z h q d:Bool}:tellT (putS s o v) c p z h q={ putS (fl s c p z h q d) o v with d:=s.d }:=by
 rw[put_fl]
 unfold tellT
 rw[put_d]
 rfl
theorem agree_keep(hc:Calm s I)(ho:okA dd s I=true)(q:Calc)(hq:calcF s I (xA g dd s I) (yA g dd s I)=q)(hst:q.st=true)(hn:q.n=I.size){c p z h o d:Bool}(ht:q.t=fl s c p z h o d){v:Int}(hv:v=q.v):AgreeM g dd s I (keepZ g dd s (pinI s I) v c p z h o):=by
 subst hv
 obtain⟨e1,e2,e3⟩:=done_fin (g:=g) (dd:=dd) (s:=s) hc.2.1 hc.2.2.1 rfl rfl rfl q hq
 unfold finT at e1
 unfold finE at e2
 unfold finG at e3
 rw[if_pos hst]at e1 e2 e3
 rw[hn]at e1 e2 e3
 have hM:keepZ g dd s (pinI s I) q.v c p z h o=if putO dd s I.a I.size=true then⟨0,tellT (putS s I.a q.v) c p z h o,putG g dd s I.a I.size q.v⟩else⟨2,s,g⟩:=by
  unfold keepZ
  show(if astE dd s (pinF s I.a) I.size=0 then(⟨0,tellT (astS s (pinF s I.a) q.v) c p z h o,astG g dd s (pinF s I.a) I.size q.v⟩:Out)else⟨2,s,g⟩)=_
  rw[pin_stE,pin_stS,pin_stG]
  by_cases hp:putO dd s I.a I.size=true
  ·rw[if_pos (st_iff.2 hp),if_pos hp]
  ·rw[if_neg (fun e=>hp (st_iff.1 e)),if_neg hp]
 rw[hM]
 by_cases hp:putO dd s I.a I.size=true
 ·rw[if_pos hp]at e1 e2 ⊢
  refine agree_done hc.1 ho e2 e3 fun _=>?_
  rw[←e1,hc.2.2.2,ht]
  exact keep_eq
 ·rw[if_neg hp]at e1 e2 ⊢
  refine agree_done hc.1 ho e2 ?_ fun z=>absurd z (show ¬(2:Int)=0 by decide)
  rw[←e3]
  exact(putG_no (by simpa using hp)).symm
theorem agree_put(hc:Calm s I)(ho:okA dd s I=true)(q:Calc)(hq:calcF s I (xA g dd s I) (yA g dd s I)=q)(hst:q.st=true){n:Int}(hn:q.n=n)(ht:q.t=s){v:Int}(hv:putS s I.a v=putS s I.a q.v∧putG g dd s I.a n v=putG g dd s I.a n q.v):AgreeM g dd s I (putZ g dd s (pinF s I.a) n v):=by
 obtain⟨e1,e2,e3⟩:=done_fin (g:=g) (dd:=dd) (s:=s) hc.2.1 hc.2.2.1 rfl rfl rfl q hq
 unfold finT at e1
 unfold finE at e2
 unfold finG at e3
 rw[if_pos hst]at e1 e2 e3
 rw[hn]at e1 e2 e3
 have hM:putZ g dd s (pinF s I.a) n v=if putO dd s I.a n=true then⟨0,putS s I.a q.v,putG g dd s I.a n q.v⟩else⟨2,s,g⟩:=by
  unfold putZ
  rw[pin_stE,pin_stS,pin_stG,hv.1,hv.2]
  by_cases hp:putO dd s I.a n=true
  ·rw[if_pos (st_iff.2 hp),if_pos hp]
  ·rw[if_neg (fun e=>hp (st_iff.1 e)),if_neg hp]
 rw[hM]
 by_cases hp:putO dd s I.a n=true
 ·rw[if_pos hp]at e1 e2 ⊢
  refine agree_done hc.1 ho e2 e3 fun _=>?_
  rw[←e1,hc.2.2.2,ht,←put_d (s:=s) (o:=I.a) q.v]
 ·rw[if_neg hp]at e1 e2 ⊢
  refine agree_done hc.1 ho e2 ?_ fun z=>absurd z (show ¬(2:Int)=0 by decide)
  rw[←e3]
  exact(putG_no (by simpa using hp)).symm
theorem agree_flat(hc:Calm s I)(ho:okA dd s I=true)(q:Calc)(hq:calcF s I (xA g dd s I) (yA g dd s I)=q)(hst:q.st=false){T:Sta}(hT:T={ q.t with d:=s.d }):AgreeM g dd s I ⟨0,T,g⟩:=by
 obtain⟨e1,e2,e3⟩:=done_fin (g:=g) (dd:=dd) (s:=s) hc.2.1 hc.2.2.1 rfl rfl rfl q hq
 unfold finT at e1
 unfold finE at e2
 unfold finG at e3
 rw[if_neg (by rw[hst];decide)]at e1 e2 e3
 refine agree_done hc.1 ho e2 e3 fun _=>?_
 rw[←e1,hc.2.2.2]
 exact hT
/-! what is loaded -/
theorem lod_a(hI:OpdIn I.a)(ho:onlyB I.op=false):lodV g dd s (pinF s I.a) I.size=cut (xA g dd s I) I.size:=by
 unfold lodV xA
 rw[pin_ldV,aldV_eq hI,ho,if_neg (by decide),cut_cut32]
theorem lod_b(hI:OpdIn I.b)(hb:I.b.kind≠0):lodV g dd s (pinF s I.b) I.size=cut (yA g dd s I) I.size:=by
 unfold lodV yA
 rw[pin_ldV,aldV_eq hI,if_neg hb,cut_cut32]
theorem agree_one(hI:AluD I)(hs:soleB I.op=false)(ho:onlyB I.op=false)(hb:I.b=noneO)(K:Int→Out)(h:okA dd s I=true→AgreeM g dd s I (K (cut (xA g dd s I) I.size))):AgreeM g dd s I (oneZ g dd s (pinI s I) K):=by
 have hk:okA dd s I=ldO dd s I.a I.size:=by
  unfold okA
  rw[ho,hb,show((noneO.kind==0)=true)from rfl,Bool.true_or,Bool.and_true,Bool.false_or]
 show AgreeM g dd s I (if aldE dd s (pinF s I.a) I.size=0 then K (lodV g dd s (pinF s I.a) I.size)else⟨2,s,g⟩)
 rw[pin_ldE,lod_a hI.opdIn.1 ho]
 by_cases hl:ldO dd s I.a I.size=true
 ·rw[if_pos (ld_iff.2 hl)];exact h (hk.trans hl)
 ·rw[if_neg (fun e=>hl (ld_iff.1 e))];exact agree_bad hs (by rw[hk];simpa using hl) _
theorem agree_sec(hI:AluD I)(hs:soleB I.op=false)(ho:onlyB I.op=true)(hb:I.b.kind≠0)(K:Int→Out)(h:okA dd s I=true→AgreeM g dd s I (K (cut (yA g dd s I) I.size))):AgreeM g dd s I (secZ g dd s (pinI s I) K):=by
 have hk:okA dd s I=ldO dd s I.b I.size:=by
  unfold okA
  rw[ho,Bool.true_or,Bool.true_and,beq_false_of_ne hb,Bool.false_or]
 show AgreeM g dd s I (if aldE dd s (pinF s I.b) I.size=0 then K (lodV g dd s (pinF s I.b) I.size)else⟨2,s,g⟩)
 rw[pin_ldE,lod_b hI.opdIn.2 hb]
 by_cases hl:ldO dd s I.b I.size=true
 ·rw[if_pos (ld_iff.2 hl)];exact h (hk.trans hl)
 ·rw[if_neg (fun e=>hl (ld_iff.1 e))];exact agree_bad hs (by rw[hk];simpa using hl) _
theorem agree_two(hI:AluD I)(hs:soleB I.op=false)(ho:onlyB I.op=false)(hb:I.b.kind≠0)(K:Int→Int→Out)(h:okA dd s I=true→AgreeM g dd s I (K (cut (xA g dd s I) I.size) (cut (yA g dd s I) I.size))):AgreeM g dd s I (twoZ g dd s (pinI s I) K):=by
 have hk:okA dd s I=(ldO dd s I.a I.size&&ldO dd s I.b I.size):=by
  unfold okA
  rw[ho,Bool.false_or,beq_false_of_ne hb,Bool.false_or]
 show AgreeM g dd s I (if aldE dd s (pinF s I.a) I.size=0 then(if aldE dd s (pinF s I.b) I.size=0 then K (lodV g dd s (pinF s I.a) I.size) (lodV g dd s (pinF s I.b) I.size)else⟨2,s,g⟩)else⟨2,s,g⟩)
 rw[pin_ldE,pin_ldE,lod_a hI.opdIn.1 ho,lod_b hI.opdIn.2 hb]
 by_cases hl:ldO dd s I.a I.size=true
 ·rw[if_pos (ld_iff.2 hl)]
  by_cases hm:ldO dd s I.b I.size=true
  ·rw[if_pos (ld_iff.2 hm)];exact h (by rw[hk,hl,hm];rfl)
  ·rw[if_neg (fun e=>hm (ld_iff.1 e))];exact agree_bad hs (by rw[hk,hl];simpa using hm) _
 ·rw[if_neg (fun e=>hl (ld_iff.1 e))];exact agree_bad hs (by rw[hk];simp[hl]) _
end
end Go.Proofs.YtmdncgfheeijaaaGreat
