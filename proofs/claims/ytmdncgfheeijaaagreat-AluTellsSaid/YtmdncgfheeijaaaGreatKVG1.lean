import Derived.Maps.Own
import Derived.Maps.OwnOps
import Derived.Maps.Views
import Derived.Test.YtmdncgfheeijaaaGreatRows
import Derived.ProofKit
import Derived.OpenShut
import Derived.BigRegion
import Derived.Lib.Hide
import Derived.WalkLawsBesides
import Derived.Deep.OwnRows
import Derived.Maps.OwnSet
import Derived.StillTailTactics
import Derived.Deep.DeepCutAuto
import Derived.ChangeSame
import Derived.ChangeArms
import Derived.Carry
import Derived.ChangeSlices
import Derived.Laws.IdiomStrings
import Derived.Laws.BytesString
import Derived.Test.YtmdncgfheeijaaaGreatKVG0
namespace Go.Proofs.YtmdncgfheeijaaaGreat
section
set_option maxRecDepth 100000
structure Opd where
 kind:Int
 reg:Int
 base:Int
 index:Int
 scale:Int
 disp:Int
 deriving DecidableEq
def sx9(c:Int):Int:=if c<128 then c else c+4294967040
def four9(a b c d:Int):Int:=a+b*256+c*65536+d*16777216
def scale9(k:Int):Int:=if k=0 then 1 else if k=1 then 2 else if k=2 then 4 else 8
def sibI(s:Int):Int:=if s/8%8=4 then -1 else s/8%8
def sibS(s:Int):Int:=if s/8%8=4 then 1 else scale9 (s/64)
def more9(md base:Int):Nat:=if md=0 then(if base=5 then 4 else 0)else if md=1 then 1 else 4
def disp9(k:Nat)(bs:Nat→Int)(n:Nat):Int:=if k=1 then sx9 (bs n)else if k=4 then four9 (bs n) (bs (n+1)) (bs (n+2)) (bs (n+3))else 0
def base9(md base:Int):Int:=if md=0∧base=5 then -1 else base
def rmF(L:Nat)(bs:Nat→Int):Option (Opd×Int×Nat):=
 if L=0 then none
 else if bs 0/64=3 then some (⟨1,bs 0%8,-1,-1,1,0⟩,bs 0/8%8,1)
 else if bs 0%8=4 then
  if L<2 then none
  else if L<2+more9 (bs 0/64) (bs 1%8)then none
  else some (⟨3,0,base9 (bs 0/64) (bs 1%8),sibI (bs 1),sibS (bs 1),disp9 (more9 (bs 0/64) (bs 1%8)) bs 2⟩,bs 0/8%8,2+more9 (bs 0/64) (bs 1%8))
 else if L<1+more9 (bs 0/64) (bs 0%8)then none
 else some (⟨3,0,base9 (bs 0/64) (bs 0%8),-1,1,disp9 (more9 (bs 0/64) (bs 0%8)) bs 1⟩,bs 0/8%8,1+more9 (bs 0/64) (bs 0%8))
def memOk(o:Opd):Prop:=o.kind=3∧o.reg=0∧-1≤o.base∧o.base≤7∧-1≤o.index∧o.index≤7∧o.index≠4∧(o.scale=1∨o.scale=2∨o.scale=4∨o.scale=8)∧(o.index≠-1∨o.scale=1)
instance (o:Opd):Decidable (memOk o):=by unfold memOk;infer_instance
def regOk(o:Opd):Prop:=0≤o.reg∧o.reg≤7∧o=⟨1,o.reg,-1,-1,1,0⟩
instance (o:Opd):Decidable (regOk o):=by unfold regOk;infer_instance
def log9(s:Int):Int:=if s=1 then 0 else if s=2 then 1 else if s=4 then 2 else 3
def bytes4(v:Int):List Int:=[v%256,v/256%256,v/65536%256,v/16777216%256]
def addM(o:Opd):Int:=if o.base=-1 then 0 else if o.disp=0∧o.base≠5 then 0 else if sx9 (o.disp%256)=o.disp then 1 else 2
def addB(o:Opd):List Int:=if o.base=-1 then bytes4 o.disp else if o.disp=0∧o.base≠5 then[]else if sx9 (o.disp%256)=o.disp then[o.disp%256]else bytes4 o.disp
def putF(reg:Int)(o:Opd):List Int:=
 if o.kind=1 then[192+reg*8+o.reg]
 else if o.index=-1∧o.base≠4 then(addM o*64+reg*8+(if o.base=-1 then 5 else o.base)) :: addB o
 else(addM o*64+reg*8+4) :: ((if o.index=-1 then 32 else log9 o.scale*64+o.index*8)+(if o.base=-1 then 5 else o.base)) :: addB o
theorem scale9_ok(k:Int):scale9 k=1∨scale9 k=2∨scale9 k=4∨scale9 k=8:=by unfold scale9;split<;>(try split)<;>(try split)<;>simp
theorem sx9_ok(c:Int)(h0:0≤c)(h1:c<256):0≤sx9 c∧sx9 c<4294967296∧sx9 (sx9 c%256)=sx9 c:=by
 unfold sx9
 by_cases h:c<128
 ·rw[if_pos h,if_pos (by omega)];omega
 ·rw[if_neg h,if_neg (by omega)];omega
theorem disp9_ok(k:Nat)(bs:Nat→Int)(n:Nat)(hb:∀i,0≤bs i∧bs i<256):0≤disp9 k bs n∧disp9 k bs n<4294967296:=by
 unfold disp9
 split
 ·have:=sx9_ok (bs n) (hb n).1 (hb n).2;omega
 ·split
  ·unfold four9
   have:=hb n;have:=hb (n+1);have:=hb (n+2);have:=hb (n+3)
   omega
  ·omega
theorem addB_len(o:Opd)(md base:Int)(bs:Nat→Int)(n:Nat)(hb:∀i,0≤bs i∧bs i<256)(h1:o.base=base9 md base)(h2:o.disp=disp9 (more9 md base) bs n)(hbase:0≤base):(addB o).length≤more9 md base:=by
 unfold base9 at h1
 unfold more9 at h2 ⊢
 unfold addB
 by_cases hm0:md=0
 ·rw[if_pos hm0]at h2 ⊢
  by_cases hb5:base=5
  ·rw[if_pos ⟨hm0,hb5⟩]at h1
   rw[if_pos hb5,if_pos h1]
   simp[bytes4]
  ·rw[if_neg (by rintro⟨_,h⟩;exact hb5 h)]at h1
   rw[if_neg hb5]at h2 ⊢
   have hz:o.disp=0:=by rw[h2];rfl
   by_cases hn:o.base=-1
   ·omega
   ·rw[if_neg hn,if_pos ⟨hz,by rw[h1];exact hb5⟩]
    decide
 ·rw[if_neg (by rintro⟨h,_⟩;exact hm0 h)]at h1
  rw[if_neg hm0]at h2 ⊢
  by_cases hm1:md=1
  ·rw[if_pos hm1]at h2 ⊢
   have hx:sx9 (o.disp%256)=o.disp:=by
    rw[h2]
    exact(sx9_ok (bs n) (hb n).1 (hb n).2).2.2
   by_cases hn:o.base=-1
   ·omega
   ·rw[if_neg hn]
    split
    ·simp
    ·simp
  ·rw[if_neg hm1]
   split
   ·simp[bytes4]
   ·split
    ·simp
    ·split<;>simp[bytes4]
theorem read_ok{L:Nat}{bs:Nat→Int}{o:Opd}{reg:Int}{n:Nat}(hb:∀i,0≤bs i∧bs i<256)(h:rmF L bs=some (o,reg,n))(h3:bs 0/64≠3):memOk o∧(0≤reg∧reg<8)∧(0≤o.disp∧o.disp<4294967296)∧1≤n∧n≤6∧n≤L∧(putF reg o).length≤n:=by
 have hb0:=hb 0
 have hb1:=hb 1
 have hm4:∀md base,more9 md base≤4:=fun md base=>by unfold more9;split<;>(try split)<;>omega
 unfold rmF at h
 by_cases hL:L=0
 ·rw[if_pos hL]at h;cases h
 ·rw[if_neg hL,if_neg h3]at h
  by_cases hr:bs 0%8=4
  ·rw[if_pos hr]at h
   by_cases h2:L<2
   ·rw[if_pos h2]at h;cases h
   ·rw[if_neg h2]at h
    by_cases h4:L<2+more9 (bs 0/64) (bs 1%8)
    ·rw[if_pos h4]at h;cases h
    ·rw[if_neg h4]at h
     simp only[Option.some.injEq,Prod.mk.injEq]at h
     obtain⟨ho,rfl,rfl⟩:=h
     have hd:=disp9_ok (more9 (bs 0/64) (bs 1%8)) bs 2 hb
     have hal:=addB_len o (bs 0/64) (bs 1%8) bs 2 hb (by rw[←ho]) (by rw[←ho]) (by omega)
     have hm:=hm4 (bs 0/64) (bs 1%8)
     refine⟨?_,by omega,by rw[←ho];exact hd,by omega,by omega,by omega,?_⟩
     ·rw[←ho]
      refine⟨rfl,rfl,?_,?_,?_,?_,?_,?_,?_⟩
      ·show -1≤base9 _ _;unfold base9;split<;>omega
      ·show base9 _ _≤7;unfold base9;split<;>omega
      ·show -1≤sibI _;unfold sibI;split<;>omega
      ·show sibI _≤7;unfold sibI;split<;>omega
      ·show sibI _≠4;unfold sibI;split<;>omega
      ·show sibS _=1∨_;unfold sibS;split
       ·exact .inl rfl
       ·exact scale9_ok _
      ·show sibI _≠-1∨sibS _=1;unfold sibI sibS;split
       ·exact .inr rfl
       ·exact .inl (by omega)
     ·have hk:o.kind=3:=by rw[←ho]
      unfold putF
      rw[if_neg (by rw[hk];decide)]
      split<;>simp<;>omega
  ·rw[if_neg hr]at h
   by_cases h4:L<1+more9 (bs 0/64) (bs 0%8)
   ·rw[if_pos h4]at h;cases h
   ·rw[if_neg h4]at h
    simp only[Option.some.injEq,Prod.mk.injEq]at h
    obtain⟨ho,rfl,rfl⟩:=h
    have hd:=disp9_ok (more9 (bs 0/64) (bs 0%8)) bs 1 hb
    have hal:=addB_len o (bs 0/64) (bs 0%8) bs 1 hb (by rw[←ho]) (by rw[←ho]) (by omega)
    have hm:=hm4 (bs 0/64) (bs 0%8)
    refine⟨?_,by omega,by rw[←ho];exact hd,by omega,by omega,by omega,?_⟩
    ·rw[←ho]
     refine⟨rfl,rfl,?_,?_,Int.le_refl _,by show(-1:Int)≤7;decide,by show(-1:Int)≠4;decide,.inl rfl,.inr rfl⟩
     ·show -1≤base9 _ _;unfold base9;split<;>omega
     ·show base9 _ _≤7;unfold base9;split<;>omega
    ·have hk:o.kind=3:=by rw[←ho]
     have hi:o.index=-1:=by rw[←ho]
     have hbs:o.base≠4:=by rw[←ho];show base9 _ _≠4;unfold base9;split<;>omega
     unfold putF
     rw[if_neg (by rw[hk];decide),if_pos ⟨hi,hbs⟩]
     simp
     omega
end
section
open Go.RowKit
set_option maxRecDepth 100000
theorem set_same{w:World}{a:Addr}{u:Value}(v:Value)(h:w.cell? a=some u):(w.setCell a v).cell? a=some v:=World.cell?_setCell_same w a v h
theorem set_other{w:World}{a b:Addr}{x:Value}(v:Value)(hn:a≠b)(h:w.cell? b=some x):(w.setCell a v).cell? b=some x:=by
 rw[World.cell?_setCell_other w a b v hn,h]
end
section
open Go.RowKit Go.Maps
set_option maxRecDepth 100000
structure But (F:Nat→Prop) (w w':World):Prop where
 os:w'.os=w.os
 tape:w'.tape=w.tape
 output:w'.output=w.output
 size:w.heap.size≤w'.heap.size
 block:∀k,k<w.heap.size→¬F k→w'.heap[k]?=w.heap[k]?
theorem But.refl(F:Nat→Prop)(w:World):But F w w:=⟨rfl,rfl,rfl,Nat.le_refl _,fun _ _ _=>rfl⟩
theorem But.trans{F G:Nat→Prop}{a b c:World}(h:But F a b)(k:But G b c)(hG:∀i,i<a.heap.size→G i→F i):But F a c:=
 ⟨k.os.trans h.os,k.tape.trans h.tape,k.output.trans h.output,Nat.le_trans h.size k.size,fun i hi hF=>(k.block i (Nat.lt_of_lt_of_le hi h.size) (fun hg=>hF (hG i hi hg))).trans (h.block i hi hF)⟩
theorem But.mono{F G:Nat→Prop}{a b:World}(h:But F a b)(hG:∀i,i<a.heap.size→F i→G i):But G a b:=
 ⟨h.os,h.tape,h.output,h.size,fun i hi hn=>h.block i hi (fun hf=>hn (hG i hi hf))⟩
theorem But.of_below{F:Nat→Prop}{w w':World}(h:Below w.heap.size w w'):But F w w':=⟨h.os,h.tape,h.output,h.size,fun k hk _=>h.block k hk⟩
theorem But.of_grown{w w':World}{b:Nat}(h:w.grownBy w' (some b)):But (·=b) w w':=⟨h.os,h.tape,h.output,h.size,fun k hk hn=>h.block k hk (fun e=>hn (by injection e))⟩
theorem But.alloc{F:Nat→Prop}{w w':World}(h:But F w w')(o:Obj):But F w (w'.alloc o):=
 h.trans (But.of_below (F:=F) ((Below.refl _ _).alloc (Nat.le_refl _) _)) (fun _ _ hf=>hf)
theorem But.drew{F:Nat→Prop}{w w':World}(h:But F w w'):But F w w'.drew:=⟨h.os,h.tape,h.output,h.size,h.block⟩
theorem But.setCell{F:Nat→Prop}{w w':World}(h:But F w w'){a:Addr}(ha:a.block<w.heap.size→F a.block)(v:Value):But F w (w'.setCell a v):=by
 refine⟨h.os,h.tape,h.output,by simpa using h.size,fun k hk hn=>?_⟩
 have hne:a.block≠k:=fun e=>hn (e ▸ ha (e ▸ hk))
 rw[←h.block k hk hn]
 simp[World.setCell,Array.getElem?_modify,hne]
theorem But.cell{F:Nat→Prop}{w w':World}(h:But F w w'){p:Addr}{x:Value}(hc:w.cell? p=some x)(hn:¬F p.block):w'.cell? p=some x:=by
 rw[World.cell?_of_block (h.block p.block (cell_lt hc) hn),hc]
theorem But.frozen{F:Nat→Prop}{w w':World}(h:But F w w'){p:Addr}(hl:p.block<w.heap.size)(hn:¬F p.block):w'.frozen? p=w.frozen? p:=
 World.frozen?_of_block (h.block p.block hl hn)
theorem But.below{F:Nat→Prop}{B:Nat}{a w w':World}(h:But F w w')(hb:Below B a w)(hF:∀k,F k→B≤k)(hB:B≤w.heap.size):Below B a w':=
 ⟨h.os.trans hb.os,h.tape.trans hb.tape,h.output.trans hb.output,Nat.le_trans hb.size h.size,fun k hk=>(h.block k (Nat.lt_of_lt_of_le hk hB) (fun hf=>by have:=hF k hf;omega)).trans (hb.block k hk)⟩
theorem But.owns{H:Type}{F:Nat→Prop}{w w':World}{P:Program}{k:TypeId}{R:Value→Option (DataW H×List MemPlace)}{b n:Nat}{D:DataW H}(h:But F w w')(hm:w.ownsMap P k R b n D)(hn:¬F b):w'.ownsMap P k R b n D:=by
 have hl:=hm.lt
 obtain⟨es,clock,hb,r⟩:=hm
 exact⟨es,clock,(h.block b hl hn).trans hb,r⟩
end
section
open Go.ChangeShapes Go.WideShapes Go.ChangeAt Go.RowKit Go.Maps Go.Deep
set_option maxRecDepth 100000
theorem key_u32:Keyed Tryz.prog 22:=int_keyed Tryz.underlying22
theorem zero_u8(w:World):(zeroValue 5).run Tryz.prog w=.ok (.int .u8 0) w:=by kernel_rfl
theorem wf_u32(a:Int)(h0:0≤a)(h1:a<4294967296):(Lit.int .u32 a).wf=true:=by
 simp only[Lit.wf,Bool.and_eq_true,decide_eq_true_eq]
 have e1:IntKind.u32.min=0:=by decide
 have e2:IntKind.u32.max=4294967295:=by decide
 omega
theorem wf_u8(a:Int)(h0:0≤a)(h1:a<256):(Lit.int .u8 a).wf=true:=by
 simp only[Lit.wf,Bool.and_eq_true,decide_eq_true_eq]
 have e1:IntKind.u8.min=0:=by decide
 have e2:IntKind.u8.max=255:=by decide
 omega
def KeysU(D:DataW Unit):Prop:=∀es,D=.map es→∀p∈es,∃a:Int,p.1=.int .u32 a∧0≤a∧a<4294967296
theorem KeysU.put{D:DataW Unit}(h:KeysU D)(hI:IsMap D)(a:Int)(a0:0≤a)(a1:a<4294967296)(d:DataW Unit):KeysU (D.put (.int .u32 a) d):=by
 obtain⟨es,rfl⟩:=hI
 intro fs hf p hp
 have hf:DataW.map (DataW.insert (.int .u32 a,d) (es.filter fun q=>!q.1.sameKey (.int .u32 a)))=DataW.map fs:=hf
 injection hf with hf
 subst hf
 rcases List.mem_cons.1 ((insert_perm _ _).mem_iff.1 hp)with rfl|hp
 ·exact⟨a,rfl,a0,a1⟩
 ·exact h es rfl p (List.mem_filter.1 hp).1
def RefMap(w:World)(B n:Nat)(g:Int→Int):Prop:=
 ∃D:DataW Unit,w.ownsMap Tryz.prog 22 (plainElem Tryz.prog 5) B n D∧(∀a,0≤a→a<4294967296→D.atKey (.int .u32 a) (.lit (.int .u8 0))=.lit (.int .u8 (g a)))∧IsMap D∧(∀a,0≤g a∧g a<256)∧KeysU D
theorem RefMap.but{F:Nat→Prop}{w w':World}{B n:Nat}{g:Int→Int}(h:RefMap w B n g)(hb:But F w w')(hn:¬F B):RefMap w' B n g:=by
 obtain⟨D,hm,r⟩:=h
 exact⟨D,hb.owns hm hn,r⟩
theorem RefMap.made(w:World):RefMap (w.alloc (.map #[] 0)) w.heap.size 0 (fun _=>0):=
 ⟨.map [],World.ownsMap_made _ _ _ _,fun _ _ _=>rfl,isMap_empty,fun _=>⟨Int.le_refl 0,by show(0:Int)<256;omega⟩,fun es he p hp=>by injection he with he;subst he;cases hp⟩
def setG(g:Int→Int)(a v:Int):Int→Int:=fun b=>if b=a then v else g b
theorem RefMap.put{w:World}{B n:Nat}{g:Int→Int}(h:RefMap w B n g)(hn:n<maxLen)(a v:Int)(a0:0≤a)(a1:a<4294967296)(v0:0≤v)(v1:v<256):
  ∃w',(Instr.mapUpdate 92 (.map (some B)) (.int .u32 a) (.int .u8 v)).run Tryz.prog w=.ok () w'∧RefMap w' B (n+1) (setG g a v)∧But (·=B) w w':=by
 obtain⟨D,hm,hr,hI,hg,hK⟩:=h
 have hk:keyOf Tryz.prog 22 (.int .u32 a)=some (.int .u32 a):=keyOf_int_mk Tryz.underlying22 (wf_u32 a a0 a1)
 obtain⟨w',hrun,hm',hgr⟩:=hm.update key_u32 Tryz.underlying92 hn hk (plainElem_int Tryz.underlying5 (wf_u8 v v0 v1))
 refine⟨w',hrun,⟨_,hm',fun b b0 b1=>?_,hI.put _ _,fun b=>?_,hK.put hI a a0 a1 _⟩,But.of_grown hgr⟩
 ·unfold setG
  by_cases hb:b=a
  ·subst hb
   rw[if_pos rfl]
   exact atKey_put_same hI (by simp[WideAt.IsKeyLit]) _ _
  ·rw[if_neg hb,atKey_put_other (by simpa using hb) _ _]
   exact hr b b0 b1
 ·unfold setG
  split
  ·exact⟨v0,v1⟩
  ·exact hg b
theorem RefMap.get{w:World}{B n:Nat}{g:Int→Int}(h:RefMap w B n g)(a:Int)(a0:0≤a)(a1:a<4294967296):
  (Instr.lookup 92 (.map (some B)) (.int .u32 a) false).run Tryz.prog w=.ok (.int .u8 (g a)) w:=by
 obtain⟨D,hm,hr,hI,hg,hK⟩:=h
 have hk:keyOf Tryz.prog 22 (.int .u32 a)=some (.int .u32 a):=keyOf_int_mk Tryz.underlying22 (wf_u32 a a0 a1)
 obtain⟨c,hrun,hat,hwc⟩:=hm.lookup_int key_u32 Tryz.underlying92 Tryz.underlying5 (zero_u8 _) hk
 rw[hr a a0 a1]at hat
 injection hat with hat
 injection hat with _ hat
 rw[hrun,hat]
theorem RefMap.few{w:World}{B n:Nat}{g:Int→Int}(h:RefMap w B n g):RefMap w B 4294967296 g:=by
 obtain⟨D,hm,hr,hI,hg,hK⟩:=h
 have ht:=hm.tidy key_u32
 have hs:Maps.size D≤4294967296:=by
  obtain⟨es,rfl,hp⟩:=ht
  have hK:=hK es rfl
  let f:Lit×DataW Unit→Nat:=fun p=>match p.1 with
   | .int _ a=>a.toNat
   |_=>0
  have hn:(es.map f).Nodup:=by
   refine List.pairwise_map.2 (List.Pairwise.imp_of_mem (fun{p q} hp hq hne=>?_) hp)
   obtain⟨a,ha,a0,_⟩:=hK p hp
   obtain⟨b,hb,b0,_⟩:=hK q hq
   have e1:f p=a.toNat:=by show(match p.1 with | .int _ a=>a.toNat|_=>0)=_;rw[ha]
   have e2:f q=b.toNat:=by show(match q.1 with | .int _ a=>a.toNat|_=>0)=_;rw[hb]
   rw[e1,e2]
   intro e
   exact hne (by rw[ha,hb,show a=b by omega])
  have hsub:es.map f ⊆ List.range 4294967296:=fun x hx=>by
   obtain⟨p,hp,rfl⟩:=List.mem_map.1 hx
   obtain⟨a,ha,a0,a1⟩:=hK p hp
   have e1:f p=a.toNat:=by show(match p.1 with | .int _ a=>a.toNat|_=>0)=_;rw[ha]
   rw[e1]
   exact List.mem_range.2 (by omega)
  have:=hn.length_le_of_subset hsub
  rw[List.length_map,List.length_range]at this
  exact this
 refine⟨D,?_,hr,hI,hg,hK⟩
 obtain⟨es,clock,hb,F,_,rfl⟩:=hm
 refine⟨es,clock,hb,F,?_,rfl⟩
 simpa[Maps.size,length_sorted]using hs
theorem rmnew_any(w:World):Calls Tryz.prog 57 #[] w fun e w'=>∃p B,e=.returned (.pointer (some ⟨p,0,none⟩))∧w.heap.size≤p∧w.heap.size≤B∧p≠B∧p<w'.heap.size∧w'.cell? ⟨p,0,none⟩=some (.map (some B))∧RefMap w' B 0 (fun _=>0)∧Below w.heap.size w w':=by
 have hmm:=@run_makeMap Tryz.prog
 go_enter Tryz.func57,Tryz.ntmps57
 go_wp2
 go_ret
 refine⟨w.heap.size+1,w.heap.size,by simp,by omega,by omega,by omega,by simp,by simp,(RefMap.made w).but (F:=fun _=>False) ((But.refl _ _).alloc _) (by simp),below_last (below_last (Below.refl _ _) _) _⟩
theorem info_u8:(Tryz.prog.info? 5).map (fun i=>(i.zero,i.size,i.bytes))=some (some (.int .u8 0),1,1):=by kernel_rfl
def readN(m:Int):Nat:=if m<0 then 0 else if 1048576<m then 1048576 else m.toNat
theorem readN_le(m:Int):readN m≤1048576:=by unfold readN;split<;>(try split)<;>omega
def place(a:Int)(i:Nat):Int:=(a+i)%4294967296
attribute [local go_sem] isSome_setCell
set_option maxHeartbeats 2000000
theorem rmread_any(p B n:Nat)(g:Int→Int)(a m:Int)(w:World)(hc:w.cell? ⟨p,0,none⟩=some (.map (some B)))(hm:RefMap w B n g):
  Calls Tryz.prog 19 #[.pointer (some ⟨p,0,none⟩),.int .u32 a,.int .i64 m] w fun e w'=>∃blk,e=.returned (.slice (some ⟨blk,0,none⟩) (readN m) (readN m))∧w.heap.size≤blk∧blk<w'.heap.size∧(∀i,i<readN m→w'.cell? ⟨blk,i,none⟩=some (.int .u8 (g (place a i))))∧Below w.heap.size w w':=by
 have hmk:=fun(N:Nat) (hN:N≤1048576)=>run_make_row' (P:=Tryz.prog) 37 5 (.int .u8 0) 1 Tryz.underlying37 info_u8 rfl .i64 .i64 N (by omega) (by omega)
 obtain⟨N,hN⟩:∃N:Nat,readN m=N:=⟨_,rfl⟩
 have hN1:=readN_le m
 have hcase:(m<0∧N≤0)∨(0≤m∧m≤1048576∧(N:Int)=m)∨(1048576<m∧1048576≤N):=by
  rw[←hN];unfold readN;split<;>(try split)<;>omega
 rw[hN]at hN1 ⊢
 clear hN
 have hmk:=hmk N hN1
 rcases hcase with⟨h1,hN0⟩|⟨h1,h2,rfl⟩|⟨h1,hN0⟩
 ·rw[show((N:Nat):Int)=0 by omega]at hmk
  go_enter Tryz.func19,Tryz.ntmps19
  go_wp2
  clear hmk
  have hP:p<w.heap.size:=cell_lt hc
  have hBm:B<w.heap.size:=by obtain⟨D,h,_⟩:=hm;exact h.lt
  have hc1:(w.alloc (.cells (madeCells #[.int .u8 0] N) 5)).cell? ⟨p,0,none⟩=some (.map (some B)):=by rw[World.cell?_alloc_lt _ _ _ hP];exact hc
  have hm1:RefMap (w.alloc (.cells (madeCells #[.int .u8 0] N) 5)) B n g:=hm.but (F:=fun _=>False) ((But.refl _ _).alloc _) (by simp)
  have hB1:Below w.heap.size w (w.alloc (.cells (madeCells #[.int .u8 0] N) 5)):=below_last (Below.refl _ _) _
  have hr0:∀i,i<N→(w.alloc (.cells (madeCells #[.int .u8 0] N) 5)).cell? ⟨w.heap.size,i,none⟩=some (.int .u8 0):=fun i hi=>by
   exact(World.rowIs_made w (.int .u8 0) N 5).cell hi
  have hf0:∀i,(w.alloc (.cells (madeCells #[.int .u8 0] N) 5)).frozen? ⟨w.heap.size,i,none⟩=false:=fun i=>by simp
  have hz0:w.heap.size<(w.alloc (.cells (madeCells #[.int .u8 0] N) 5)).heap.size:=by simp
  generalize w.alloc (.cells (madeCells #[.int .u8 0] N) 5)=W at *
  clear hc hm
  go_loopw [8] (fun v wr=>∃i:Nat,i≤N∧v=.int .i64 i∧But (·=w.heap.size) W wr∧(∀j,wr.frozen? ⟨w.heap.size,j,none⟩=false)∧(∀j,j<N→wr.cell? ⟨w.heap.size,j,none⟩=some (.int .u8 (if j<i then g (place a j)else 0)))) (fun v _=>N-(intOf v).toNat)
  case atStart=>exact⟨0,by omega,rfl,But.refl _ _,hf0,fun j hj=>by rw[if_neg (by omega)];exact hr0 j hj⟩
  case round=>
   obtain⟨i,hi,rfl,hr,hfz,hcells⟩:=hrel
   have hc2:wr.cell? ⟨p,0,none⟩=some (.map (some B)):=hr.cell hc1 (by show ¬(p=w.heap.size);omega)
   have hm2:RefMap wr B n g:=hm1.but hr (by omega)
   obtain⟨wo,rfl⟩:∃wo:World,wo=wr:=⟨_,rfl⟩
   by_cases hlt:i<N
   ·exact absurd hlt (by omega)
   ·have hd:decide ((i:Int)<0)=false:=decide_eq_false (by omega)
    have hcells':=Lib.hid hcells
    have hr':=hr
    clear hcells hfz
    go_wp2
    go_ret
    refine⟨w.heap.size,by rfl,Nat.le_refl _,Nat.lt_of_lt_of_le hz0 hr.size,fun j hj=>?_,hr.below hB1 (fun k hk=>by omega) (by omega)⟩
    rw[hcells'.out j hj,if_pos (by omega)]
 ·have hN0:=hN1
  go_enter Tryz.func19,Tryz.ntmps19
  go_wp2
  clear hmk
  have hP:p<w.heap.size:=cell_lt hc
  have hBm:B<w.heap.size:=by obtain⟨D,h,_⟩:=hm;exact h.lt
  have hc1:(w.alloc (.cells (madeCells #[.int .u8 0] N) 5)).cell? ⟨p,0,none⟩=some (.map (some B)):=by rw[World.cell?_alloc_lt _ _ _ hP];exact hc
  have hm1:RefMap (w.alloc (.cells (madeCells #[.int .u8 0] N) 5)) B n g:=hm.but (F:=fun _=>False) ((But.refl _ _).alloc _) (by simp)
  have hB1:Below w.heap.size w (w.alloc (.cells (madeCells #[.int .u8 0] N) 5)):=below_last (Below.refl _ _) _
  have hr0:∀i,i<N→(w.alloc (.cells (madeCells #[.int .u8 0] N) 5)).cell? ⟨w.heap.size,i,none⟩=some (.int .u8 0):=fun i hi=>by
   exact(World.rowIs_made w (.int .u8 0) N 5).cell hi
  have hf0:∀i,(w.alloc (.cells (madeCells #[.int .u8 0] N) 5)).frozen? ⟨w.heap.size,i,none⟩=false:=fun i=>by simp
  have hz0:w.heap.size<(w.alloc (.cells (madeCells #[.int .u8 0] N) 5)).heap.size:=by simp
  generalize w.alloc (.cells (madeCells #[.int .u8 0] N) 5)=W at *
  clear hc hm
  go_loopw [8] (fun v wr=>∃i:Nat,i≤N∧v=.int .i64 i∧But (·=w.heap.size) W wr∧(∀j,wr.frozen? ⟨w.heap.size,j,none⟩=false)∧(∀j,j<N→wr.cell? ⟨w.heap.size,j,none⟩=some (.int .u8 (if j<i then g (place a j)else 0)))) (fun v _=>N-(intOf v).toNat)
  case atStart=>exact⟨0,by omega,rfl,But.refl _ _,hf0,fun j hj=>by rw[if_neg (by omega)];exact hr0 j hj⟩
  case round=>
   obtain⟨i,hi,rfl,hr,hfz,hcells⟩:=hrel
   have hc2:wr.cell? ⟨p,0,none⟩=some (.map (some B)):=hr.cell hc1 (by show ¬(p=w.heap.size);omega)
   have hm2:RefMap wr B n g:=hm1.but hr (by omega)
   obtain⟨wo,rfl⟩:∃wo:World,wo=wr:=⟨_,rfl⟩
   by_cases hlt:i<N
   ·have hp0:0≤(a+i)%4294967296:=by omega
    have hp1:(a+i)%4294967296<4294967296:=by omega
    have hget:=hm2.get _ hp0 hp1
    have hcell:=hcells i hlt
    rw[if_neg (by omega)]at hcell
    have hd:decide ((i:Int)<(N:Int))=true:=decide_eq_true (by omega)
    have hcells':=Lib.hid hcells
    have hfi:=hfz i
    have hfz':=Lib.hid hfz
    clear hcells hfz
    go_wp2_with fail
    go_roundw
    case rel=>exact⟨i+1,by omega,by go_num,hr.setCell (by simp) _,fun j=>by rw[World.frozen?_setCell];exact hfz'.out j,fun j hj=>by
     by_cases hji:j=i
     ·subst hji
      rw[if_pos (by omega)]
      exact set_same _ hcell
     ·have h2:=hcells'.out j hj
      rw[set_other _ (by simp;try omega) h2]
      by_cases hlt2:j<i
      ·rw[if_pos hlt2,if_pos (by omega)]
      ·rw[if_neg hlt2,if_neg (by omega)]⟩
    case measure=>simp[intOf];try omega
   ·have hd:decide ((i:Int)<(N:Int))=false:=decide_eq_false (by omega)
    have hcells':=Lib.hid hcells
    have hr':=hr
    clear hcells hfz
    go_wp2
    go_ret
    refine⟨w.heap.size,by rfl,Nat.le_refl _,Nat.lt_of_lt_of_le hz0 hr.size,fun j hj=>?_,hr.below hB1 (fun k hk=>by omega) (by omega)⟩
    rw[hcells'.out j hj,if_pos (by omega)]
 ·rw[show((N:Nat):Int)=1048576 by omega]at hmk
  go_enter Tryz.func19,Tryz.ntmps19
  go_wp2
  clear hmk
  have hP:p<w.heap.size:=cell_lt hc
  have hBm:B<w.heap.size:=by obtain⟨D,h,_⟩:=hm;exact h.lt
  have hc1:(w.alloc (.cells (madeCells #[.int .u8 0] N) 5)).cell? ⟨p,0,none⟩=some (.map (some B)):=by rw[World.cell?_alloc_lt _ _ _ hP];exact hc
  have hm1:RefMap (w.alloc (.cells (madeCells #[.int .u8 0] N) 5)) B n g:=hm.but (F:=fun _=>False) ((But.refl _ _).alloc _) (by simp)
  have hB1:Below w.heap.size w (w.alloc (.cells (madeCells #[.int .u8 0] N) 5)):=below_last (Below.refl _ _) _
  have hr0:∀i,i<N→(w.alloc (.cells (madeCells #[.int .u8 0] N) 5)).cell? ⟨w.heap.size,i,none⟩=some (.int .u8 0):=fun i hi=>by
   exact(World.rowIs_made w (.int .u8 0) N 5).cell hi
  have hf0:∀i,(w.alloc (.cells (madeCells #[.int .u8 0] N) 5)).frozen? ⟨w.heap.size,i,none⟩=false:=fun i=>by simp
  have hz0:w.heap.size<(w.alloc (.cells (madeCells #[.int .u8 0] N) 5)).heap.size:=by simp
  generalize w.alloc (.cells (madeCells #[.int .u8 0] N) 5)=W at *
  clear hc hm
  go_loopw [8] (fun v wr=>∃i:Nat,i≤N∧v=.int .i64 i∧But (·=w.heap.size) W wr∧(∀j,wr.frozen? ⟨w.heap.size,j,none⟩=false)∧(∀j,j<N→wr.cell? ⟨w.heap.size,j,none⟩=some (.int .u8 (if j<i then g (place a j)else 0)))) (fun v _=>N-(intOf v).toNat)
  case atStart=>exact⟨0,by omega,rfl,But.refl _ _,hf0,fun j hj=>by rw[if_neg (by omega)];exact hr0 j hj⟩
  case round=>
   obtain⟨i,hi,rfl,hr,hfz,hcells⟩:=hrel
   have hc2:wr.cell? ⟨p,0,none⟩=some (.map (some B)):=hr.cell hc1 (by show ¬(p=w.heap.size);omega)
   have hm2:RefMap wr B n g:=hm1.but hr (by omega)
   obtain⟨wo,rfl⟩:∃wo:World,wo=wr:=⟨_,rfl⟩
   by_cases hlt:i<N
   ·have hp0:0≤(a+i)%4294967296:=by omega
    have hp1:(a+i)%4294967296<4294967296:=by omega
    have hget:=hm2.get _ hp0 hp1
    have hcell:=hcells i hlt
    rw[if_neg (by omega)]at hcell
    have hd:decide ((i:Int)<1048576)=true:=decide_eq_true (by omega)
    have hcells':=Lib.hid hcells
    have hfi:=hfz i
    have hfz':=Lib.hid hfz
    clear hcells hfz
    go_wp2_with fail
    go_roundw
    case rel=>exact⟨i+1,by omega,by go_num,hr.setCell (by simp) _,fun j=>by rw[World.frozen?_setCell];exact hfz'.out j,fun j hj=>by
     by_cases hji:j=i
     ·subst hji
      rw[if_pos (by omega)]
      exact set_same _ hcell
     ·have h2:=hcells'.out j hj
      rw[set_other _ (by simp;try omega) h2]
      by_cases hlt2:j<i
      ·rw[if_pos hlt2,if_pos (by omega)]
      ·rw[if_neg hlt2,if_neg (by omega)]⟩
    case measure=>simp[intOf];try omega
   ·have hd:decide ((i:Int)<1048576)=false:=decide_eq_false (by omega)
    have hcells':=Lib.hid hcells
    have hr':=hr
    clear hcells hfz
    go_wp2
    go_ret
    refine⟨w.heap.size,by rfl,Nat.le_refl _,Nat.lt_of_lt_of_le hz0 hr.size,fun j hj=>?_,hr.below hB1 (fun k hk=>by omega) (by omega)⟩
    rw[hcells'.out j hj,if_pos (by omega)]
end
section
open Go.ChangeShapes Go.WideShapes Go.ChangeAt Go.RowKit Go.Maps Go.Deep
set_option maxRecDepth 100000
def writeG(g:Int→Int)(a:Int)(bs:Nat→Int):Nat→Int→Int
 |0=>g
 |k+1=>setG (writeG g a bs k) (place a k) (bs k)
set_option maxHeartbeats 2000000
theorem rmwrite_any(p B n:Nat)(g:Int→Int)(a:Int)(ad:Addr)(L cap:Nat)(bs:Nat→Int)(hn:n+L<maxLen)(hL:L<4294967296)(w:World)(hc:w.cell? ⟨p,0,none⟩=some (.map (some B)))(hm:RefMap w B n g)(hpB:p≠B)(hadB:ad.block≠B)
  (hb:∀i,i<L→w.cell? (ad.add i)=some (.int .u8 (bs i))) (hb0:∀i,0≤bs i∧bs i<256):
  Calls Tryz.prog 58 #[.pointer (some ⟨p,0,none⟩),.int .u32 a,.slice (some ad) L cap] w fun e w'=>e=.returned (.tuple #[])∧RefMap w' B (n+L) (writeG g a bs L)∧But (·=B) w w':=by
 go_enter Tryz.func58,Tryz.ntmps58
 go_wp2
 go_loopw [6] (fun v wr=>∃i:Nat,i≤L∧v=.int .i64 i∧But (·=B) w wr∧RefMap wr B (n+i) (writeG g a bs i)) (fun v _=>L-(intOf v).toNat)
 case atStart=>exact⟨0,by omega,rfl,But.refl _ _,hm⟩
 case round=>
  obtain⟨i,hi,rfl,hr,hm2⟩:=hrel
  have hc2:wr.cell? ⟨p,0,none⟩=some (.map (some B)):=hr.cell hc hpB
  by_cases hlt:i<L
  ·have hb2:wr.cell? (ad.add i)=some (.int .u8 (bs i)):=hr.cell (hb i hlt) (show ¬(ad.add i).block=B by unfold Addr.add;split<;>exact hadB)
   have hp0:0≤place a i:=by unfold place;omega
   have hp1:place a i<4294967296:=by unfold place;omega
   have hk:IntKind.u32.wrap (a+IntKind.u32.wrap (i:Int))=place a i:=by rw[IntKind.wrap_u32,IntKind.wrap_u32];unfold place;omega
   obtain⟨w2,hrun,hm3,hbut⟩:=RefMap.put (w:=wr.drew) (hm2.but (F:=fun _=>False) ((But.refl _ _).drew) (by simp)) (by omega) _ _ hp0 hp1 (hb0 i).1 (hb0 i).2
   rw[←hk]at hrun
   clear hk
   obtain⟨wo,rfl⟩:∃wo:World,wo=wr:=⟨_,rfl⟩
   have hd:decide ((i:Int)<(L:Int))=true:=decide_eq_true (by omega)
   go_upto_region 3 with(fail)
   go_still_tail 12,(by kernel_rfl)
   change wpList _ _ _ _ _ wo.drew
   have hc3:wo.drew.cell? ⟨p,0,none⟩=some (.map (some B)):=hc2
   have hb3:wo.drew.cell? (ad.add i)=some (.int .u8 (bs i)):=hb2
   have hr3:But (·=B) w wo.drew:=hr.drew
   generalize wo.drew=W at *
   clear hm hm2 hr hc2 hb2
   go_wp2_with fail
   go_roundw
   case rel=>exact⟨i+1,by omega,by go_num,hr3.trans hbut (fun _ _ h=>h),hm3⟩
   case measure=>simp[intOf];try omega
  ·obtain rfl:i=L:=by omega
   have hd:decide ((i:Int)<(i:Int))=false:=by simp
   go_wp2
   go_end0
   exact⟨rfl,hm2,hr⟩
end
section
open Go.ChangeShapes Go.WideShapes Go.ChangeAt Go.RowKit
set_option maxRecDepth 100000
def Slc(k:IntKind)(w:World)(v:Value)(L:Nat)(bs:Nat→Int):Prop:=
 (v=.slice none 0 0∧L=0)∨∃ad cap,v=.slice (some ad) L cap∧L≤cap∧∀i,i<L→w.cell? (ad.add i)=some (.int k (bs i))
theorem add_block(a:Addr)(i:Nat):(a.add i).block=a.block:=by unfold Addr.add;split<;>rfl
theorem Slc.but{k:IntKind}{F:Nat→Prop}{w w':World}{v:Value}{L:Nat}{bs:Nat→Int}(h:Slc k w v L bs)(hb:But F w w')(hn:0<L→∀j,v.ownBlock=some j→¬F j):Slc k w' v L bs:=by
 rcases h with h|⟨ad,cap,rfl,hl,hc⟩
 ·exact .inl h
 ·refine .inr ⟨ad,cap,rfl,hl,fun i hi=>hb.cell (hc i hi) ?_⟩
  rw[add_block]
  exact hn (by omega) _ rfl
theorem Slc.below{k:IntKind}{w w':World}{v:Value}{L:Nat}{bs:Nat→Int}(h:Slc k w v L bs)(hb:Below w.heap.size w w'):Slc k w' v L bs:=
 h.but (F:=fun _=>False) (But.of_below hb) (fun _ _ _ h=>h)
theorem Slc.own_lt{k:IntKind}{w:World}{v:Value}{L:Nat}{bs:Nat→Int}(h:Slc k w v L bs)(hL:0<L)(j:Nat)(hj:v.ownBlock=some j):j<w.heap.size:=by
 rcases h with⟨rfl,rfl⟩|⟨ad,cap,rfl,hl,hc⟩
 ·cases hj
 ·injection hj with hj
  have:=cell_lt (hc 0 hL)
  rw[add_block]at this
  omega
theorem Slc.len{k:IntKind}{w:World}{v:Value}{L:Nat}{bs:Nat→Int}(h:Slc k w v L bs):∃a cap,v=.slice a L cap:=by
 rcases h with⟨rfl,rfl⟩|⟨ad,cap,rfl,hl,hc⟩
 ·exact⟨_,_,rfl⟩
 ·exact⟨_,_,rfl⟩
theorem Slc.congr{k:IntKind}{w:World}{v:Value}{L:Nat}{bs cs:Nat→Int}(h:Slc k w v L bs)(e:∀i,i<L→bs i=cs i):Slc k w v L cs:=by
 rcases h with h|⟨ad,cap,rfl,hl,hc⟩
 ·exact .inl h
 ·exact .inr ⟨ad,cap,rfl,hl,fun i hi=>by rw[hc i hi,e i hi]⟩
def strOf(L:Nat)(bs:Nat→Int):ByteArray:=⟨((List.range L).map fun i=>UInt8.ofNat (bs i).toNat).toArray⟩
theorem Slc.str{w:World}{v:Value}{L:Nat}{bs:Nat→Int}(h:Slc .u8 w v L bs)(h8:∀i,i<L→0≤bs i∧bs i<256):(convert 37 9 v).run Tryz.prog w=.ok (.string (strOf L bs)) w:=by
 rcases h with⟨rfl,rfl⟩|⟨ad,cap,rfl,hl,hc⟩
 ·rw[run_convert_bytes_string w 37 9 5 none 0 0 Tryz.underlying37 Tryz.underlying5 Tryz.underlying9]
  simp[Conv.bytesToString]
  rfl
 ·have:=run_convert_bytes_back (P:=Tryz.prog) w 37 9 5 ad cap ((List.range L).map fun i=>UInt8.ofNat (bs i).toNat) Tryz.underlying37 Tryz.underlying5 Tryz.underlying9 (fun j hj=>by
   have hj':j<L:=by simpa using hj
   rw[hc j hj']
   have:=h8 j hj'
   simp
   omega)
  simpa[strOf]using this
def setP(pg:Int→Bool)(a:Int):Int→Bool:=fun q=>q==a/4096*4096 || pg q
def writeP(pg:Int→Bool)(a:Int):Nat→Int→Bool
 |0=>pg
 |k+1=>setP (writeP pg a k) (place a k)
end
section
set_option maxRecDepth 100000
structure Frm where
 op:Int
 cond:Int
 size:Int
 how:List UInt8
 c:Int
 deriving DecidableEq
def nilF:Frm:=⟨0,0,0,[],0⟩
def isF(c op size:Int)(how:List UInt8):Frm×Bool×Bool:=(⟨op,0,size,how,c%8⟩,op != 0,false)
def grpF(l:List Int)(reg:Int):Int:=l.getD reg.toNat 0
def byF(c reg:Int)(l:List Int)(size:Int)(how:List UInt8):Frm×Bool×Bool:=if reg<0 then(nilF,false,true)else isF c (grpF l reg) size how
def alus:List Int:=[1,2,3,4,5,6,7,8]
def shfs:List Int:=[26,27,0,0,28,29,0,30]
def firstF(c reg:Int)(m3:Bool):Frm×Bool×Bool:=
 let s:=1+3*(c%2)
 if c<64∧c%8<6 then isF c (grpF alus (c/8)) ([1,4,1,4,1,4].getD (c%8).toNat 0) ([[69,71],[69,71],[71,69],[71,69],[97,73],[97,73]].getD (c%8).toNat [])
 else if 64≤c∧c<72 then isF c 16 4 [114]
 else if 72≤c∧c<80 then isF c 17 4 [114]
 else if 80≤c∧c<88 then isF c 23 4 [114]
 else if 88≤c∧c<96 then isF c 24 4 [114]
 else if 112≤c∧c<128 then(⟨31,c%16,0,[98],c%8⟩,true,false)
 else if 145≤c∧c<152 then isF c 22 4 [97,114]
 else if 176≤c∧c<184 then isF c 18 1 [114,73]
 else if 184≤c∧c<192 then isF c 18 4 [114,73]
 else if c=0x68 then isF c 23 4 [73]
 else if c=0x6a then isF c 23 4 [98]
 else if c=0x69 then(⟨25,1,4,[71,69,76],c%8⟩,true,false)
 else if c=0x6b then(⟨25,1,4,[71,69,66],c%8⟩,true,false)
 else if c=0x80 then byF c reg alus 1 [69,73]
 else if c=0x81 then byF c reg alus 4 [69,73]
 else if c=0x83 then byF c reg alus 4 [69,98]
 else if c=0x84∨c=0x85 then isF c 9 s [69,71]
 else if c=0x86∨c=0x87 then isF c 22 s [69,71]
 else if c=0x88∨c=0x89 then isF c 18 s [69,71]
 else if c=0x8a∨c=0x8b then isF c 18 s [71,69]
 else if c=0x8d then(if reg<0 then(nilF,false,true)else(⟨21,0,4,[71,69],c%8⟩,!m3,false))
 else if c=0x8f then byF c reg [24] 4 [69]
 else if c=0x90 then isF c 50 0 []
 else if c=0x98 then isF c 37 0 []
 else if c=0x99 then isF c 38 0 []
 else if c=0xa0∨c=0xa1 then isF c 18 s [97,109]
 else if c=0xa2∨c=0xa3 then isF c 18 s [109,97]
 else if c=0xa4∨c=0xa5 then isF c 46 s []
 else if c=0xa8∨c=0xa9 then isF c 9 s [97,73]
 else if c=0xaa∨c=0xab then isF c 47 s []
 else if c=0xac∨c=0xad then isF c 48 s []
 else if c=0xc1 then byF c reg shfs 4 [69,98]
 else if c=0xd1 then byF c reg shfs 4 [69,49]
 else if c=0xd3 then byF c reg shfs 4 [69,99]
 else if c=0xc2 then isF c 34 0 [119]
 else if c=0xc3 then isF c 34 0 []
 else if c=0xc6∨c=0xc7 then byF c reg [18] s [69,73]
 else if c=0xc9 then isF c 49 0 []
 else if c=0xcc then isF c 40 0 []
 else if c=0xf4 then isF c 39 0 []
 else if c=0xe8 then isF c 33 0 [105]
 else if c=0xe9 then isF c 32 0 [105]
 else if c=0xeb then isF c 32 0 [98]
 else if c=0xf5 then isF c 43 0 []
 else if c=0xf8 then isF c 41 0 []
 else if c=0xf9 then isF c 42 0 []
 else if c=0xfc then isF c 44 0 []
 else if c=0xfd then isF c 45 0 []
 else if c=0xf6 then(if reg=0 then isF c 9 1 [69,73]else byF c reg [0,0,10,11] 1 [69])
 else if c=0xf7 then(if reg=0 then isF c 9 4 [69,73]else byF c reg [0,0,10,11,12,13,14,15] 4 [69])
 else if c=0xfe then byF c reg [16,17] 1 [69]
 else if c=0xff then byF c reg [16,17,33,0,32,0,23] 4 [69]
 else(nilF,false,false)
end
end Go.Proofs.YtmdncgfheeijaaaGreat
