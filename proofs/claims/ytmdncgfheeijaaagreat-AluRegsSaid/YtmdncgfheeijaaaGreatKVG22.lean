import Derived.KernelRfl
import Derived.ArgAppend
import Derived.Test.YtmdncgfheeijaaaGreatKVG21
namespace Go.Proofs.YtmdncgfheeijaaaGreat
section
set_option maxRecDepth 100000
theorem step_0(f:Frm)(rm:Opd)(reg:Int)(L:Nat)(bs:Nat→Int)(s:Mst)(c:UInt8)(h:needF f.size c=0)(hl:s.at_≤L)(h1:c≠76)(h2:c≠66):stepM f rm reg L bs s c=some ⟨s.l++pushF f rm reg 0 c,s.c,s.at_⟩:=by
 unfold stepM
 rw[if_neg (by omega),h,if_neg (fun e=>e.elim h1 h2)]
 rfl
theorem step_x(f:Frm)(rm:Opd)(reg:Int)(L:Nat)(bs:Nat→Int)(s:Mst)(c:UInt8)(n:Nat)(h:needF f.size c=n)(hl:¬s.at_+n≤L):stepM f rm reg L bs s c=none:=by
 unfold stepM
 rw[h,if_pos (by omega)]
theorem bind_step{f:Frm}{rm:Opd}{reg:Int}{L:Nat}{bs:Nat→Int}{s t:Mst}{c:UInt8}{l:List UInt8}{o:Option Mst}(h:stepM f rm reg L bs s c=some t)(h2:runM f rm reg L bs l t=o):runM f rm reg L bs (c :: l) s=o:=by
 show(stepM f rm reg L bs s c).bind _=_
 rw[h]
 exact h2
theorem bind_none{f:Frm}{rm:Opd}{reg:Int}{L:Nat}{bs:Nat→Int}{s:Mst}{c:UInt8}{l:List UInt8}(h:stepM f rm reg L bs s c=none):runM f rm reg L bs (c :: l) s=none:=by
 show(stepM f rm reg L bs s c).bind _=_
 rw[h]
 rfl
def isNum(c:UInt8):Bool:=c==73 || c==98 || c==66 || c==119 || c==105 || c==76 || c==109
theorem num_0{c:UInt8}(h:isNum c=false)(size:Int):needF size c=0∧c≠76∧c≠66:=by
 unfold isNum at h
 simp only[Bool.or_eq_false_iff,beq_eq_false_iff_ne,ne_eq]at h
 obtain⟨⟨⟨⟨⟨⟨h1,h2⟩,h3⟩,h4⟩,h5⟩,h6⟩,h7⟩:=h
 refine⟨?_,h6,h3⟩
 unfold needF
 rw[if_neg h1,if_neg (fun e=>e.elim h2 h3),if_neg h4,if_neg (fun e=>e.elim h5 (fun e=>e.elim h6 h7))]
section
variable {f:Frm} {rm:Opd} {reg:Int} {L:Nat} {bs:Nat→Int} {s:Mst} {l:List UInt8} {o:Option Mst}
theorem s0(c:UInt8)(h:isNum c=false)(hl:s.at_≤L)(h2:runM f rm reg L bs l ⟨s.l++pushF f rm reg 0 c,s.c,s.at_⟩=o):runM f rm reg L bs (c :: l) s=o:=
 bind_step (step_0 f rm reg L bs s c (num_0 h f.size).1 hl (num_0 h f.size).2.1 (num_0 h f.size).2.2) h2
theorem sx{n:Nat}(c:UInt8)(h:needF f.size c=n)(hl:¬s.at_+n≤L):runM f rm reg L bs (c :: l) s=none:=bind_none (step_x f rm reg L bs s c n h hl)
theorem s1{n:Nat}(c:UInt8)(h:isNum c=false)(hl:¬s.at_+n≤L)(h2:s.at_≤L→runM f rm reg L bs l ⟨s.l++pushF f rm reg 0 c,s.c,s.at_⟩=none):runM f rm reg L bs (c :: l) s=none:=by
 have _:=hl
 by_cases hk:s.at_≤L
 ·exact s0 c h hk (h2 hk)
 ·exact sx (n:=0) c (num_0 h f.size).1 hk
end
section
variable (i:Ins) (f:Frm) (rm:Opd) (reg:Int) (L:Nat) (bs:Nat→Int) (k:Nat) (x:Ins) (hb:∀j,0≤bs j∧bs j<256) (hi:i.a=noneO∧i.b=noneO) (hx:madeF i f rm reg L bs k=(x,0))
include hi hx
include hb
end
end
section
set_option maxRecDepth 100000
theorem two_in{h:Int}{x:Frm×Bool}(hx:twoH h=some x):∃n:Nat,n<256∧(h=0x0f00+n∨h=0xf300+n∨h=0x660f00+n∨h=0xf20f00+n):=by
 unfold twoH at hx
 by_cases c1:0x0f00≤h∧h<0x1000
 ·exact⟨(h-0x0f00).toNat,by omega,.inl (by omega)⟩
 rw[if_neg c1]at hx
 by_cases c2:0xf300≤h∧h<0xf400
 ·exact⟨(h-0xf300).toNat,by omega,.inr (.inl (by omega))⟩
 rw[if_neg c2]at hx
 by_cases c3:0x660f00≤h∧h<0x661000
 ·exact⟨(h-0x660f00).toNat,by omega,.inr (.inr (.inl (by omega)))⟩
 rw[if_neg c3]at hx
 by_cases c4:0xf20f00≤h∧h<0xf21000
 ·exact⟨(h-0xf20f00).toNat,by omega,.inr (.inr (.inr (by omega)))⟩
 rw[if_neg c4]at hx
 cases hx
end
section
open Go.ChangeShapes Go.WideShapes Go.ChangeAt Go.RowKit
set_option maxRecDepth 100000
theorem info_u8':(Tryz.prog.info? 5).map (fun i=>(i.zero,i.size,i.bytes))=some (some (.int .u8 0),1,1):=by kernel_rfl
theorem lst_map{k:IntKind}(l:List Int)(j:Nat)(h:j<l.length):(l.map (Value.int k))[j]?=some (.int k (lst l j)):=by
 unfold lst
 simp[List.getD_eq_getElem?_getD,List.getElem?_eq_getElem h]
theorem int_one(k:IntKind)(l:List Int):∀u∈l.map (Value.int k),u.oneCell'=true:=by
 intro u hu
 simp only[List.mem_map]at hu
 obtain⟨x,_,rfl⟩:=hu
 simp[Value.oneCell']
end
section
set_option maxRecDepth 100000
def rmOk(rm:Opd):Prop:=regOk rm∨(memOk rm∧0≤rm.disp∧rm.disp<4294967296)
theorem rmOk.put{rm:Opd}(h:rmOk rm){reg:Int}(h0:0≤reg)(h1:reg<8):putOk reg rm:=by
 rcases h with h|⟨h,_⟩
 ·exact⟨h0,h1,.inl h⟩
 ·exact⟨h0,h1,.inr h⟩
theorem rm_ok{L:Nat}{bs:Nat→Int}{o:Opd}{r:Int}{n:Nat}(hb:∀i,0≤bs i∧bs i<256)(h:rmF L bs=some (o,r,n)):rmOk o∧r=bs 0/8%8∧(o.kind=1↔bs 0/64=3)∧1≤n∧n≤L:=by
 have hr:r=bs 0/8%8:=by
  unfold rmF at h
  split at h
  ·cases h
  ·split at h
   ·cases h;rfl
   ·split at h
    ·split at h
     ·cases h
     ·split at h
      ·cases h
      ·cases h;rfl
    ·split at h
     ·cases h
     ·cases h;rfl
 by_cases h3:bs 0/64=3
 ·unfold rmF at h
  by_cases hL:L=0
  ·rw[if_pos hL]at h;cases h
  rw[if_neg hL,if_pos h3]at h
  cases h
  exact⟨.inl ⟨by show 0≤bs 0%8;omega,by show bs 0%8≤7;omega,rfl⟩,rfl,⟨fun _=>h3,fun _=>rfl⟩,Nat.le_refl _,by omega⟩
 ·obtain⟨m1,_,m2,m3,_,m4,_⟩:=read_ok hb h h3
  exact⟨.inr ⟨m1,m2⟩,hr,⟨fun hk=>absurd (hk.symm.trans m1.1) (by decide),fun hk=>absurd hk h3⟩,m3,m4⟩
end
end Go.Proofs.YtmdncgfheeijaaaGreat
