import Derived.Laws.MathBits
import Derived.Handy
import Derived.Lib.Hide
import Derived.Test.YtmdncgfheeijaaaGreatKVG22
namespace Go.Proofs.YtmdncgfheeijaaaGreat
section
set_option maxRecDepth 100000
def aluH(op size:Int)(how:List UInt8):Bool:=
 if 1≤op∧op≤8 then(size==1 || size==4)&&([[69,71],[71,69],[97,73],[69,73]].contains how || (size==4&&how==[69,98]))
 else if op=9 then(size==1 || size==4)&&[[69,71],[97,73],[69,73]].contains how
 else if op=10∨op=11 then(size==1 || size==4)&&how==[69]
 else if 12≤op∧op≤15 then size==4&&how==[69]
 else if op=16∨op=17 then(size==4&&how==[114]) || ((size==1 || size==4)&&how==[69])
 else if op=18 then(size==1 || size==4)&&[[69,71],[71,69],[114,73],[97,109],[109,97],[69,73]].contains how
 else if op=19∨op=20 then(size==1 || size==2)&&how==[103,69]
 else if op=21 then size==4&&how==[71,69]
 else if op=22 then(size==4&&how==[97,114]) || ((size==1 || size==4)&&how==[69,71])
 else if op=25 then size==4&&[[71,69,76],[71,69,66],[71,69]].contains how
 else if 26≤op∧op≤30 then size==4&&[[69,98],[69,49],[69,99]].contains how
 else if op=35 then size==1&&how==[69]
 else if op=36 then size==4&&how==[71,69]
 else(op==37 || op==38 || op==41 || op==42 || op==43 || op==44 || op==45 || op==50)&&size==0&&how==[]
def chkA(x:Option (Frm×Bool)):Bool:=match x with
 |none=>true
 |some (f,rep)=>!isAluB f.op || (aluH f.op f.size f.how&&decide (0≤f.c∧f.c<8)&&!rep&&decide (0≤f.cond∧f.cond<16))
theorem chkA_one:((List.range 256).all fun n=>(List.range 9).all fun k=>chkA (oneH n ((k:Int)-1) true)&&chkA (oneH n ((k:Int)-1) false))=true:=by kernel_rfl
theorem chkA_two:((List.range 256).all fun n=>chkA (twoH (0x0f00+n))&&chkA (twoH (0xf300+n))&&chkA (twoH (0x660f00+n))&&chkA (twoH (0xf20f00+n)))=true:=by kernel_rfl
theorem chkA_at{h reg:Int}{m3:Bool}{f:Frm}{rep:Bool}(h0:0≤h)(r0:-1≤reg)(r1:reg<8)(hf:frmH h reg m3=some (f,rep)):chkA (some (f,rep))=true:=by
 unfold frmH at hf
 by_cases hh:h<256
 ·rw[if_pos hh]at hf
  obtain⟨n,rfl⟩:=Int.eq_ofNat_of_zero_le h0
  obtain⟨k,hk⟩:∃k:Nat,reg=(k:Int)-1:=⟨(reg+1).toNat,by omega⟩
  subst hk
  have h1:=List.all_eq_true.1 chkA_one n (List.mem_range.2 (by omega))
  have h2:=List.all_eq_true.1 h1 k (List.mem_range.2 (by omega))
  simp only[Bool.and_eq_true]at h2
  rw[←hf]
  cases m3
  ·exact h2.2
  ·exact h2.1
 ·rw[if_neg hh]at hf
  obtain⟨n,hn,hh⟩:=two_in hf
  have h1:=List.all_eq_true.1 chkA_two n (List.mem_range.2 hn)
  simp only[Bool.and_eq_true]at h1
  rw[←hf]
  rcases hh with rfl|rfl|rfl|rfl
  ·exact h1.1.1.1
  ·exact h1.1.1.2
  ·exact h1.1.2
  ·exact h1.2
def RgD(n:Int)(o:Opd):Prop:=∃r,0≤r∧r<8∧o=smallO n r
def MmD(o:Opd):Prop:=o.kind=3∧0≤o.disp∧o.disp<4294967296
def NmD(o:Opd):Prop:=∃v,0≤v∧v<4294967296∧o=numO v
def letP(n:Int)(c:UInt8)(o:Opd):Prop:=
 (c=69∧(RgD n o∨MmD o))∨((c=71∨c=97∨c=114)∧RgD n o)∨(c=103∧RgD 4 o)∨(c=49∧o=numO 1)∨(c=99∧o=regO 2 1)∨(c=109∧MmD o)∨((c=73∨c=98)∧NmD o)
def howP(x:Ins):List UInt8→Prop
 |[]=>x.a=noneO∧x.b=noneO
 |[a]=>letP x.size a x.a∧x.b=noneO
 |a :: b :: _=>letP x.size a x.a∧letP x.size b x.b
structure AluD (x:Ins):Prop where
 how:∃how,aluH x.op x.size how=true∧howP x how
 c:0≤x.c∧x.c<4294967296
 rep:x.rep=false
 cond:0≤x.cond∧x.cond<16
theorem val_ok{need:Nat}{c:UInt8}{bs:Nat→Int}{k:Nat}(hb:∀i,0≤bs i∧bs i<256):0≤valF need c bs k∧valF need c bs k<4294967296:=by
 have h0:=hb k
 have h1:=hb (k+1)
 have h2:=hb (k+2)
 have h3:=hb (k+3)
 have h4:=sx9_ok (bs k) h0.1 h0.2
 unfold valF four9
 repeat' split
 all_goals omega
theorem run_cons{f:Frm}{rm:Opd}{reg:Int}{L:Nat}{bs:Nat→Int}{c:UInt8}{l:List UInt8}{s t:Mst}(hb:∀i,0≤bs i∧bs i<256)(h:runM f rm reg L bs (c :: l) s=some t):
  ∃v k,(0≤v∧v<4294967296)∧runM f rm reg L bs l ⟨s.l++pushF f rm reg v c,if c=76∨c=66 then v else s.c,k⟩=some t:=by
 unfold runM at h
 unfold stepM at h
 by_cases hl:L<s.at_+needF f.size c
 ·rw[if_pos hl]at h
  cases h
 ·rw[if_neg hl]at h
  exact⟨_,_,val_ok hb,h⟩
theorem push_let{f:Frm}{rm:Opd}{reg v:Int}(c:UInt8)(hc:c=69∨c=71∨c=97∨c=114∨c=103∨c=49∨c=99∨c=109∨c=73∨c=98)(h69:c=69→rmOk rm)(r0:0≤reg)(r1:reg<8)(c0:0≤f.c)(c1:f.c<8)(v0:0≤v)(v1:v<4294967296):
  ∃o,pushF f rm reg v c=[o]∧letP f.size c o:=by
 rcases hc with rfl|rfl|rfl|rfl|rfl|rfl|rfl|rfl|rfl|rfl
 ·refine⟨_,rfl,.inl ⟨rfl,?_⟩⟩
  rcases h69 rfl with h|⟨h,d0,d1⟩
  ·obtain⟨q0,q1,e⟩:=h
   refine .inl ⟨rm.reg,q0,by omega,?_⟩
   unfold smallO turnO
   have hk:rm.kind=1:=by rw[e]
   by_cases hs:f.size=1
   ·rw[if_pos hs,if_pos hk,if_pos hs]
   ·rw[if_neg hs,if_neg hs]
    exact e
  ·refine .inr ?_
   have hk:=h.1
   unfold turnO
   rw[if_neg (show ¬rm.kind=1 by omega),ite_self]
   exact⟨hk,d0,d1⟩
 ·exact⟨_,rfl,.inr (.inl ⟨.inl rfl,reg,r0,r1,rfl⟩)⟩
 ·exact⟨_,rfl,.inr (.inl ⟨.inr (.inl rfl),0,by decide,by decide,rfl⟩)⟩
 ·exact⟨_,rfl,.inr (.inl ⟨.inr (.inr rfl),f.c,c0,c1,rfl⟩)⟩
 ·exact⟨_,rfl,.inr (.inr (.inl ⟨rfl,reg,r0,r1,rfl⟩))⟩
 ·exact⟨_,rfl,.inr (.inr (.inr (.inl ⟨rfl,rfl⟩)))⟩
 ·exact⟨_,rfl,.inr (.inr (.inr (.inr (.inl ⟨rfl,rfl⟩))))⟩
 ·exact⟨_,rfl,.inr (.inr (.inr (.inr (.inr (.inl ⟨rfl,rfl,v0,v1⟩)))))⟩
 ·exact⟨_,rfl,.inr (.inr (.inr (.inr (.inr (.inr ⟨.inl rfl,v,v0,v1,rfl⟩)))))⟩
 ·exact⟨_,rfl,.inr (.inr (.inr (.inr (.inr (.inr ⟨.inr rfl,v,v0,v1,rfl⟩)))))⟩
def LA:List (List UInt8):=[[],[69,71],[71,69],[97,73],[69,73],[69,98],[69],[114],[114,73],[97,109],[109,97],[103,69],[97,114],[71,69,76],[71,69,66],[69,49],[69,99]]
theorem aluH_in{op size:Int}{how:List UInt8}(h:aluH op size how=true):how∈LA:=by
 unfold aluH at h
 unfold LA
 by_cases c0:1≤op∧op≤8
 ·rw[if_pos c0]at h
  (simp at h;simp;grind)
 rw[if_neg c0]at h
 by_cases c1:op=9
 ·rw[if_pos c1]at h
  (simp at h;simp;grind)
 rw[if_neg c1]at h
 by_cases c2:op=10∨op=11
 ·rw[if_pos c2]at h
  (simp at h;simp;grind)
 rw[if_neg c2]at h
 by_cases c3:12≤op∧op≤15
 ·rw[if_pos c3]at h
  (simp at h;simp;grind)
 rw[if_neg c3]at h
 by_cases c4:op=16∨op=17
 ·rw[if_pos c4]at h
  (simp at h;simp;grind)
 rw[if_neg c4]at h
 by_cases c5:op=18
 ·rw[if_pos c5]at h
  (simp at h;simp;grind)
 rw[if_neg c5]at h
 by_cases c6:op=19∨op=20
 ·rw[if_pos c6]at h
  (simp at h;simp;grind)
 rw[if_neg c6]at h
 by_cases c7:op=21
 ·rw[if_pos c7]at h
  (simp at h;simp;grind)
 rw[if_neg c7]at h
 by_cases c8:op=22
 ·rw[if_pos c8]at h
  (simp at h;simp;grind)
 rw[if_neg c8]at h
 by_cases c9:op=25
 ·rw[if_pos c9]at h
  (simp at h;simp;grind)
 rw[if_neg c9]at h
 by_cases c10:26≤op∧op≤30
 ·rw[if_pos c10]at h
  (simp at h;simp;grind)
 rw[if_neg c10]at h
 by_cases c11:op=35
 ·rw[if_pos c11]at h
  (simp at h;simp;grind)
 rw[if_neg c11]at h
 by_cases c12:op=36
 ·rw[if_pos c12]at h
  (simp at h;simp;grind)
 rw[if_neg c12]at h
 (simp at h;simp;grind)
def okL(c:UInt8):Prop:=c=69∨c=71∨c=97∨c=114∨c=103∨c=49∨c=99∨c=109∨c=73∨c=98
section
variable {f:Frm} {rm:Opd} {reg:Int} {L:Nat} {bs:Nat→Int} {k:Nat} {s:Mst}
theorem one_let(hb:∀i,0≤bs i∧bs i<256)(r0:0≤reg)(r1:reg<8)(c0:0≤f.c)(c1:f.c<8)(a:UInt8)(ha:okL a)(h69:a=69→rmOk rm)(n76:¬(a=76∨a=66))(h:runM f rm reg L bs [a] ⟨[],0,k⟩=some s):∃o,s.l=[o]∧letP f.size a o∧s.c=0:=by
 obtain⟨v,k',hv,h⟩:=run_cons hb h
 obtain⟨o,ho,hp⟩:=push_let a ha h69 r0 r1 c0 c1 hv.1 hv.2
 rw[ho,if_neg n76]at h
 injection h with h
 subst h
 exact⟨o,rfl,hp,rfl⟩
theorem two_let(hb:∀i,0≤bs i∧bs i<256)(r0:0≤reg)(r1:reg<8)(c0:0≤f.c)(c1:f.c<8)(a b:UInt8)(ha:okL a)(hb':okL b)(h69:a=69∨b=69→rmOk rm)(n76:¬(a=76∨a=66))(m76:¬(b=76∨b=66))(l:List UInt8)(hl:l=[]∨l=[76]∨l=[66])(h:runM f rm reg L bs (a :: b :: l) ⟨[],0,k⟩=some s):∃o p,s.l=[o,p]∧letP f.size a o∧letP f.size b p∧0≤s.c∧s.c<4294967296:=by
 obtain⟨v,k',hv,h⟩:=run_cons hb h
 obtain⟨o,ho,hp⟩:=push_let a ha (fun e=>h69 (.inl e)) r0 r1 c0 c1 hv.1 hv.2
 rw[ho,if_neg n76]at h
 obtain⟨u,k2,hu,h⟩:=run_cons hb h
 obtain⟨p,hp2,hq⟩:=push_let b hb' (fun e=>h69 (.inr e)) r0 r1 c0 c1 hu.1 hu.2
 rw[hp2,if_neg m76]at h
 rcases hl with rfl|rfl|rfl
 ·injection h with h
  subst h
  exact⟨o,p,rfl,hp,hq,Int.le_refl _,by show(0:Int)<_;decide⟩
 ·obtain⟨z,k3,hz,h⟩:=run_cons hb h
  injection h with h
  subst h
  exact⟨o,p,rfl,hp,hq,hz.1,hz.2⟩
 ·obtain⟨z,k3,hz,h⟩:=run_cons hb h
  injection h with h
  subst h
  exact⟨o,p,rfl,hp,hq,hz.1,hz.2⟩
theorem made_let{rep:Bool}{x:Ins}(hb:∀i,0≤bs i∧bs i<256)(hx:madeF ⟨f.op,f.cond,f.size,noneO,noneO,0,rep,0⟩ f rm reg L bs k=(x,0))(hA:aluH f.op f.size f.how=true)(h69:(69:UInt8)∈f.how→rmOk rm)(r0:0≤reg)(r1:reg<8)(c0:0≤f.c)(c1:f.c<8):x.op=f.op∧x.cond=f.cond∧x.size=f.size∧x.rep=rep∧howP x f.how∧0≤x.c∧x.c<4294967296:=by
 unfold madeF at hx
 cases hr:runM f rm reg L bs f.how ⟨[],0,k⟩with
 |none=>
  rw[hr]at hx
  cases hx
 |some s=>
  rw[hr]at hx
  injection hx with hx _
  have hin:=aluH_in hA
  obtain⟨how,hhow⟩:∃how,f.how=how:=⟨_,rfl⟩
  rw[hhow]at hr hin h69 ⊢
  have e1:∀a,how=[a]→okL a→¬(a=76∨a=66)→x.op=f.op∧x.cond=f.cond∧x.size=f.size∧x.rep=rep∧howP x how∧0≤x.c∧x.c<4294967296:=fun a e ok nk=>by
   subst e
   obtain⟨o,hl,hp,hc⟩:=one_let hb r0 r1 c0 c1 a ok (fun e=>h69 (by simp[e])) nk hr
   subst hx
   rw[hl,hc]
   exact⟨rfl,rfl,rfl,rfl,⟨hp,rfl⟩,Int.le_refl _,by show(0:Int)<4294967296;decide⟩
  have e2:∀a b l,how=a :: b :: l→(l=[]∨l=[76]∨l=[66])→okL a→okL b→¬(a=76∨a=66)→¬(b=76∨b=66)→x.op=f.op∧x.cond=f.cond∧x.size=f.size∧x.rep=rep∧howP x how∧0≤x.c∧x.c<4294967296:=fun a b l e hl oka okb nka nkb=>by
   subst e
   obtain⟨o,p,hs,hp,hq,z0,z1⟩:=two_let hb r0 r1 c0 c1 a b oka okb (fun e=>h69 (by rcases e with e|e<;>simp[e])) nka nkb l hl hr
   subst hx
   rw[hs]
   exact⟨rfl,rfl,rfl,rfl,⟨hp,hq⟩,z0,z1⟩
  unfold LA at hin
  simp only[List.mem_cons,List.not_mem_nil,or_false]at hin
  rcases hin with h|h|h|h|h|h|h|h|h|h|h|h|h|h|h|h|h
  ·subst h
   injection hr with hr
   subst hr hx
   exact⟨rfl,rfl,rfl,rfl,⟨rfl,rfl⟩,Int.le_refl _,by show(0:Int)<4294967296;decide⟩
  all_goals first
   |exact e1 _ h (by unfold okL;simp) (by decide)
   |exact e2 _ _ _ h (by simp) (by unfold okL;simp) (by unfold okL;simp) (by decide) (by decide)
end
theorem one_alu{L:Nat}{bs:Nat→Int}{x:Ins}(hb:∀i,0≤bs i∧bs i<256)(h:oneF L bs=(x,0))(ho:isAluB x.op=true):AluD x:=by
 obtain⟨hN,f,rep,h0,hf,hl,hbs,hg⟩:=one_head hb h
 have hB1:=hb 1
 have hr:-1≤behF L bs 1∧behF L bs 1<8:=by unfold behF;split<;>omega
 have hk:=chkA_at h0 hr.1 hr.2 hf
 have fin:∀rm reg n,madeF ⟨f.op,f.cond,f.size,noneO,noneO,0,rep,0⟩ f rm reg L bs n=(x,0)→((69:UInt8)∈f.how→rmOk rm)→0≤reg→reg<8→AluD x:=fun rm reg n hm h69 r0 r1=>by
  have hop:x.op=f.op:=by
   unfold madeF at hm
   cases hr:runM f rm reg L bs f.how ⟨[],0,n⟩with
   |none=>rw[hr]at hm;cases hm
   |some s=>rw[hr]at hm;injection hm with hm _;rw[←hm]
  have hk:(!isAluB f.op || (aluH f.op f.size f.how&&decide (0≤f.c∧f.c<8)&&!rep&&decide (0≤f.cond∧f.cond<16)))=true:=hk
  rw[←hop,ho]at hk
  simp only[Bool.not_true,Bool.false_or,Bool.and_eq_true,decide_eq_true_eq,Bool.not_eq_true']at hk
  rw[hop]at hk
  obtain⟨⟨⟨k1,k2⟩,k3⟩,k4⟩:=hk
  obtain⟨q1,q2,q3,q4,q5,q6⟩:=made_let hb hm k1 h69 r0 r1 k2.1 k2.2
  exact⟨⟨f.how,by rw[q1,q3];exact k1,q5⟩,q6,q4.trans k3,by rw[q2];exact k4⟩
 unfold goF at hg
 by_cases hh:hasF f.how=true
 ·rw[if_pos hh]at hg
  cases hrm:rmF (L-(spelledF hN).length) (fun i=>bs ((spelledF hN).length+i))with
  |none=>rw[hrm]at hg;cases hg
  |some y=>
   obtain⟨o,r,n⟩:=y
   rw[hrm]at hg
   obtain⟨k1,k2,_⟩:=rm_ok (fun i=>hb _) hrm
   have hb0:=hb ((spelledF hN).length+0)
   exact fin o r _ hg (fun _=>k1) (by rw[k2];show 0≤bs _/8%8;omega) (by rw[k2];show bs _/8%8<8;omega)
 ·rw[if_neg hh]at hg
  refine fin zeroO 0 _ hg (fun hm=>?_) (Int.le_refl _) (by decide)
  exact absurd (List.any_eq_true.2 ⟨69,hm,by decide⟩) hh
end
section
open Go.ChangeShapes Go.WideShapes Go.ChangeAt Go.RowKit
set_option maxRecDepth 100000
theorem putG_no{g:Int→Int}{dd:Sg}{s:Sta}{o:Opd}{n v:Int}(h:putO dd s o n=false):putG g dd s o n v=g:=by
 unfold putO at h
 unfold putG
 by_cases hk:o.kind=3
 ·rw[if_pos hk]at h ⊢
  unfold stG
  rw[if_neg (fun e=>by rw[e]at h;cases h)]
 ·rw[if_neg hk]
theorem fin_of(g:Int→Int)(dd:Sg)(s:Sta)(I:Ins)(q:Calc):finE dd s I q=0∨(finE dd s I q=2∧finG g dd s I q=g):=by
 unfold finE finG
 cases q.st with
 |false=>exact .inl rfl
 |true=>
  cases hp:putO dd s I.a q.n with
  |true=>exact .inl rfl
  |false=>exact .inr ⟨rfl,putG_no hp⟩
theorem done_of(g:Int→Int)(dd:Sg)(s:Sta)(I:Ins)(x y:Int):doneE dd s I x y=0∨((doneE dd s I x y=2∨doneE dd s I x y=3)∧doneG g dd s I x y=g):=by
 unfold doneE doneG
 by_cases hw:isWide I.op=true
 ·rw[if_pos hw,if_pos hw]
  cases wideO s I.op x with
  |true=>exact .inl rfl
  |false=>exact .inr ⟨.inr rfl,rfl⟩
 rw[if_neg hw,if_neg hw]
 by_cases hx:I.op=22
 ·rw[if_pos hx,if_pos hx]
  cases (putO dd s I.a I.size&&putO dd s I.b I.size)with
  |true=>exact .inl rfl
  |false=>exact .inr ⟨.inl rfl,rfl⟩
 rw[if_neg hx,if_neg hx]
 exact(fin_of g dd s I _).imp id fun h=>⟨.inl h.1,h.2⟩
theorem alu_of(g:Int→Int)(dd:Sg)(s:Sta)(I:Ins):aluE g dd s I=0∨((aluE g dd s I=2∨aluE g dd s I=3)∧aluG g dd s I=g∧AluT g dd s I=s):=by
 have h:aluE g dd s I=0∨((aluE g dd s I=2∨aluE g dd s I=3)∧aluG g dd s I=g):=by
  unfold aluE aluG
  by_cases h1:soleB I.op=true
  ·rw[if_pos h1];exact .inl rfl
  rw[if_neg h1,if_neg h1]
  cases okA dd s I with
  |false=>exact .inr ⟨.inl rfl,rfl⟩
  |true=>exact done_of g dd s I _ _
 refine h.imp id fun h=>⟨h.1,h.2,?_⟩
 unfold AluT
 rw[if_neg (by rcases h.1 with h|h<;>rw[h]<;>decide)]
def Kept15(s t:Sta):Prop:=t.x=s.x∧t.ip=s.ip
theorem Kept15.trans{a b c:Sta}(h:Kept15 a b)(k:Kept15 b c):Kept15 a c:=⟨k.1.trans h.1,k.2.trans h.2⟩
theorem ite_all{α:Type}{P:α→Prop}{p:Prop}[Decidable p]{a b:α}(ha:P a)(hb:P b):P (if p then a else b):=by split<;>assumption
theorem let_kind{n:Int}{c:UInt8}{o:Opd}(h:letP n c o):o.kind≠5∧0≤o.disp∧o.disp<4294967296:=by
 have hr:∀m,RgD m o→o.kind≠5∧0≤o.disp∧o.disp<4294967296:=fun m ⟨r,_,_,e⟩=>by
  rw[e]
  unfold smallO
  split
  ·exact⟨by show(2:Int)≠5;decide,Int.le_refl _,by show(0:Int)<4294967296;decide⟩
  ·exact⟨by show(1:Int)≠5;decide,Int.le_refl _,by show(0:Int)<4294967296;decide⟩
 have hm:MmD o→o.kind≠5∧0≤o.disp∧o.disp<4294967296:=fun⟨k,d0,d1⟩=>⟨by omega,d0,d1⟩
 rcases h with⟨_,h|h⟩|⟨_,h⟩|⟨_,h⟩|⟨_,h⟩|⟨_,h⟩|⟨_,h⟩|⟨_,h⟩
 ·exact hr _ h
 ·exact hm h
 ·exact hr _ h
 ·exact hr _ h
 ·rw[h];exact⟨by decide,by decide,by decide⟩
 ·rw[h];exact⟨by decide,by decide,by decide⟩
 ·exact hm h
 ·obtain⟨v,v0,v1,e⟩:=h
  rw[e]
  exact⟨by show(4:Int)≠5;decide,v0,v1⟩
theorem AluD.opds{I:Ins}(h:AluD I):(I.a.kind≠5∧0≤I.a.disp∧I.a.disp<4294967296)∧(I.b.kind≠5∧0≤I.b.disp∧I.b.disp<4294967296):=by
 obtain⟨how,_,hp⟩:=h.how
 have hn:∀o:Opd,o=noneO→o.kind≠5∧0≤o.disp∧o.disp<4294967296:=fun o e=>by rw[e];exact⟨by decide,by decide,by decide⟩
 match how,hp with
 |[],⟨h1,h2⟩=>exact⟨hn _ h1,hn _ h2⟩
 |[_],⟨h1,h2⟩=>exact⟨let_kind h1,hn _ h2⟩
 |_ :: _ :: _,⟨h1,h2⟩=>exact⟨let_kind h1,let_kind h2⟩
theorem calc_ok{s:Sta}(hs:StaOk s)(I:Ins)(x y:Int)(x0:0≤x)(x1:x<4294967296)(y0:0≤y)(y1:y<4294967296):StaOk (calcF s I x y).t∧0≤(calcF s I x y).v∧(calcF s I x y).v<4294967296:=by
 have hf:∀c p z g o d,StaOk (fl s c p z g o d):=fun c p z g o d=>fl_ok hs c p z g o d
 have hsh:∀op,StaOk (shiftQ s op x y I.size).t∧0≤(shiftQ s op x y I.size).v∧(shiftQ s op x y I.size).v<4294967296:=fun op=>⟨hf _ _ _ _ _ _,shV_lo _ _ _ x0,shV_hi _ _ _ (by omega) x0 x1⟩
 have htm:∀a c,StaOk (timesQ s a c I.size).t∧0≤(timesQ s a c I.size).v∧(timesQ s a c I.size).v<4294967296:=fun a c=>⟨hf _ _ _ _ _ _,by show 0≤imulL a c;unfold imulL;omega,by show imulL a c<4294967296;unfold imulL;omega⟩
 have hz:∀z:Int,0≤z→z<4294967296→∀st,StaOk (logQ s z I.size st).t∧0≤(logQ s z I.size st).v∧(logQ s z I.size st).v<4294967296:=fun z _ _ st=>⟨hf _ _ _ _ _ _,cut_lo _ _,cut_hi _ _⟩
 show(fun q:Calc=>StaOk q.t∧0≤q.v∧q.v<4294967296) (calcF s I x y)
 unfold calcF
 repeat' (refine ite_all (P:=fun q:Calc=>StaOk q.t∧0≤q.v∧q.v<4294967296) ?_ ?_)
 all_goals first
  |exact⟨hf _ _ _ _ _ _,addV_lo _ _ _ _,addV_hi _ _ _ _⟩
  |exact⟨hf _ _ _ _ _ _,subV_lo _ _ _ _,subV_hi _ _ _ _⟩
  |exact⟨hf _ _ _ _ _ _,cut_lo _ _,cut_hi _ _⟩
  |exact⟨hf _ _ _ _ _ _,stepV_lo _ _ _,stepV_hi _ _ _⟩
  |exact hsh _
  |exact htm _ _
  |exact⟨hs,xor_lo 4294967295 x (by decide) (by decide) x0 x1,xor_hi 4294967295 x (by decide) (by decide) x0 x1⟩
  |exact⟨hs,y0,y1⟩
  |exact⟨hs,cut_lo _ _,cut_hi _ _⟩
  |exact⟨hs,by show 0≤sgn y I.size%4294967296;omega,by show sgn y I.size%4294967296<4294967296;omega⟩
  |exact⟨hs,Int.le_refl _,by show(0:Int)<4294967296;decide⟩
  |exact⟨hs,by show(0:Int)≤if _ then 1 else 0;split<;>decide,by show(if _ then 1 else 0:Int)<4294967296;split<;>decide⟩
theorem put_ok15{s:Sta}(hs:StaOk s)(o:Opd)(v:Int)(v0:0≤v)(v1:v<4294967296):StaOk (putS s o v):=by
 unfold putS
 split
 ·exact hs
 ·exact set_ok hs _ _ v0 (by omega)
theorem cdq_ok(a:Int):0≤cdqV a∧cdqV a<4294967296:=by unfold cdqV;split<;>decide
theorem alu_ok{s:Sta}(hs:StaOk s)(g:Int→Int)(dd:Sg)(I:Ins):StaOk (AluT g dd s I):=by
 have hx:=ldA_lo g dd s I
 have hy:=ldB_lo g dd s I
 have h:StaOk (aluT g dd s I):=by
  unfold aluT
  split
  ·unfold soleT
   repeat' split
   all_goals first
    |exact⟨put_ok hs.r ⟨by omega,by omega⟩ _,hs.x,hs.ip⟩
    |exact⟨put_ok hs.r (cdq_ok _) _,hs.x,hs.ip⟩
    |exact⟨hs.r,hs.x,hs.ip⟩
    |exact set_ok hs _ _ (ofF_lo _ _) (by have:=ofF_hi s I.b;omega)
  ·split
   ·unfold doneT
    split
    ·split
     ·exact wideT_ok hs _ _ hx.1 hx.2
     ·exact hs
    ·split
     ·split
      ·exact put_ok15 (put_ok15 hs _ _ hy.1 hy.2) _ _ hx.1 hx.2
      ·exact hs
     ·have hc:=calc_ok hs I _ _ hx.1 hx.2 hy.1 hy.2
      unfold finT
      split
      ·split
       ·exact put_ok15 hc.1 _ _ hc.2.1 hc.2.2
       ·exact hs
      ·exact hc.1
   ·exact hs
 unfold AluT
 split
 ·exact⟨h.r,h.x,h.ip⟩
 ·exact hs
end
section
open Go.ChangeShapes Go.WideShapes Go.ChangeAt Go.RowKit
set_option maxRecDepth 100000
theorem counted_any(size:Int)(w:World):Calls Tryz.prog 147 #[.int .i64 size] w fun e w'=>e=.returned (.int .i64 (widN size))∧w=w':=by
 have hc:size=1∨size=2∨size=4∨size=8∨(size≠1∧size≠2∧size≠4∧size≠8):=by omega
 rcases hc with rfl|rfl|rfl|rfl|⟨h1,h2,h3,h4⟩
 ·go_enter Tryz.func147,Tryz.ntmps147
  go_wp2
  go_ret
  exact⟨rfl,rfl⟩
 ·go_enter Tryz.func147,Tryz.ntmps147
  go_wp2
  go_ret
  exact⟨rfl,rfl⟩
 ·go_enter Tryz.func147,Tryz.ntmps147
  go_wp2
  go_ret
  exact⟨rfl,rfl⟩
 ·go_enter Tryz.func147,Tryz.ntmps147
  go_wp2
  go_ret
  exact⟨rfl,rfl⟩
 ·have hV:=Lib.hid (show widN size=4 by unfold widN;rw[if_neg h1,if_neg h2,if_neg h4])
  have e1:(size==1)=false:=by simpa using h1
  have e2:(size==2)=false:=by simpa using h2
  have e3:(size==4)=false:=by simpa using h3
  have e4:(size==8)=false:=by simpa using h4
  clear h1 h2 h3 h4
  go_enter Tryz.func147,Tryz.ntmps147
  go_wp2
  go_ret
  exact⟨by rw[hV.out];rfl,rfl⟩
def sumN(bs:Nat→Int):Nat→Int
 |0=>0
 |n+1=>sumN bs n+bs n*256^n
theorem leV_sum(g:Int→Int)(a:Int):∀n,leV g a n=sumN (fun i=>g (place a i)) n
 |0=>rfl
 |n+1=>by unfold leV sumN;rw[leV_sum g a n]
theorem sumN_bd(bs:Nat→Int)(h:∀i,0≤bs i∧bs i<256):∀n,0≤sumN bs n∧sumN bs n<256^n
 |0=>by unfold sumN;exact⟨by omega,by decide⟩
 |n+1=>by
  obtain⟨h0,h1⟩:=sumN_bd bs h n
  obtain⟨b0,b1⟩:=h n
  unfold sumN
  have hp:(0:Int)<256^n:=Int.pow_pos (by decide)
  rw[Int.pow_succ]
  generalize (256:Int)^n=P at *
  have m0:=Int.mul_nonneg b0 (Int.le_of_lt hp)
  have m1:=Int.mul_le_mul_of_nonneg_right (show bs n≤255 by omega) (Int.le_of_lt hp)
  constructor<;>omega
theorem or_add64(k:Nat)(a b:Int)(a0:0≤a)(a1:a<((2^k:Nat):Int))(b0:0≤b)(h:a+b*((2^k:Nat):Int)<18446744073709551616):bits .or .u64 a (b*((2^k:Nat):Int))=a+b*((2^k:Nat):Int):=by
 obtain⟨x,rfl⟩:∃x:Nat,a=(x:Int):=⟨a.toNat,by omega⟩
 obtain⟨y,rfl⟩:∃y:Nat,b=(y:Int):=⟨b.toNat,by omega⟩
 have e:(y:Int)*((2^k:Nat):Int)=((y*2^k:Nat):Int):=by push_cast;rfl
 rw[e]at h ⊢
 have hx:x<2^k:=by omega
 rw[u64_or_nat x (y*2^k) (by omega) (by omega)]
 have:=Nat.shiftLeft_add_eq_or_of_lt hx y
 rw[Nat.shiftLeft_eq]at this
 rw[Nat.or_comm,←this]
 omega
set_option maxHeartbeats 4000000
theorem number_any(v:Value)(L:Nat)(bs:Nat→Int)(hL:L≤8)(hb:∀i,0≤bs i∧bs i<256)(w:World)(hs:Slc .u8 w v L bs):
  Calls Tryz.prog 153 #[v] w fun e w'=>e=.returned (.int .u64 (sumN bs L))∧w=w':=by
 rcases hs with⟨rfl,rfl⟩|⟨ad,cap,rfl,hl,hc⟩
 ·go_enter Tryz.func153,Tryz.ntmps153
  go_wp2
  go_loop [3,8] (fun v3 v8=>v3=.int .u64 0∧v8=.int .i64 0) (fun _ _=>0)
  case atStart=>exact⟨rfl,rfl⟩
  case round=>
   obtain⟨rfl,rfl⟩:=hrel
   go_wp2
   go_ret
   exact⟨rfl,rfl⟩
 ·have HC:=Lib.hid hc
  have HB:=Lib.hid hb
  clear hc hb
  go_enter Tryz.func153,Tryz.ntmps153
  go_wp2
  go_loop [3,8] (fun v3 v8=>∃k:Nat,k≤L∧v8=.int .i64 k∧v3=.int .u64 (sumN bs k)) (fun _ v8=>L-(intOf v8).toNat)
  case atStart=>exact⟨0,Nat.zero_le _,rfl,rfl⟩
  case round=>
   obtain⟨k,hk,rfl,rfl⟩:=hrel
   by_cases hlt:k<L
   ·have h8:k=0∨k=1∨k=2∨k=3∨k=4∨k=5∨k=6∨k=7:=by omega
    have hcell:=HC.out k hlt
    have hbd:=sumN_bd bs HB.out k
    have hx:=HB.out k
    have HS:=Lib.hid (show sumN bs (k+1)=sumN bs k+bs k*256^k from rfl)
    generalize sumN bs k=A at *
    generalize bs k=x at *
    have e0:IntKind.u64.wrap x=x:=by rw[IntKind.wrap_u64];omega
    rcases h8 with rfl|rfl|rfl|rfl|rfl|rfl|rfl|rfl
    ·have hcell:w.cell? ad=some (.int .u8 x):=by simpa[Addr.add]using hcell
     have i0:(0:Int)<(L:Int):=by omega
     obtain rfl:A=0:=by omega
     have o1:bits .or .u64 0 x=x:=by have:=or_add64 0 0 x (by omega) (by decide) hx.1 (by simp;omega);simpa using this
     clear hbd hlt
     go_wp2
     go_round
     case rel=>exact⟨1,by omega,rfl,by rw[HS.out];first|rfl|(congr 1;simp)⟩
     case measure=>simp[intOf];omega
    ·have hcell:w.cell? ⟨ad.block,ad.off+1,none⟩=some (.int .u8 x):=by simpa[Addr.add]using hcell
     have i0:(1:Int)<(L:Int):=by omega
     have s1:IntKind.u64.wrap (x*256)=x*256:=by rw[IntKind.wrap_u64];omega
     have o1:bits .or .u64 A (x*256)=A+x*256:=or_add64 8 A x (by omega) (by show A<(256:Int);omega) hx.1 (by show A+x*256<_;omega)
     clear hbd hlt
     go_wp2
     go_round
     case rel=>exact⟨2,by omega,rfl,by rw[HS.out];first|rfl|(congr 1;simp)⟩
     case measure=>simp[intOf];omega
    ·have hcell:w.cell? ⟨ad.block,ad.off+2,none⟩=some (.int .u8 x):=by simpa[Addr.add]using hcell
     have i0:(2:Int)<(L:Int):=by omega
     have s1:IntKind.u64.wrap (x*65536)=x*65536:=by rw[IntKind.wrap_u64];omega
     have o1:bits .or .u64 A (x*65536)=A+x*65536:=or_add64 16 A x (by omega) (by show A<(65536:Int);omega) hx.1 (by show A+x*65536<_;omega)
     clear hbd hlt
     go_wp2
     go_round
     case rel=>exact⟨3,by omega,rfl,by rw[HS.out];first|rfl|(congr 1;simp)⟩
     case measure=>simp[intOf];omega
    ·have hcell:w.cell? ⟨ad.block,ad.off+3,none⟩=some (.int .u8 x):=by simpa[Addr.add]using hcell
     have i0:(3:Int)<(L:Int):=by omega
     have s1:IntKind.u64.wrap (x*16777216)=x*16777216:=by rw[IntKind.wrap_u64];omega
     have o1:bits .or .u64 A (x*16777216)=A+x*16777216:=or_add64 24 A x (by omega) (by show A<(16777216:Int);omega) hx.1 (by show A+x*16777216<_;omega)
     clear hbd hlt
     go_wp2
     go_round
     case rel=>exact⟨4,by omega,rfl,by rw[HS.out];first|rfl|(congr 1;simp)⟩
     case measure=>simp[intOf];omega
    ·have hcell:w.cell? ⟨ad.block,ad.off+4,none⟩=some (.int .u8 x):=by simpa[Addr.add]using hcell
     have i0:(4:Int)<(L:Int):=by omega
     have s1:IntKind.u64.wrap (x*4294967296)=x*4294967296:=by rw[IntKind.wrap_u64];omega
     have o1:bits .or .u64 A (x*4294967296)=A+x*4294967296:=or_add64 32 A x (by omega) (by show A<(4294967296:Int);omega) hx.1 (by show A+x*4294967296<_;omega)
     clear hbd hlt
     go_wp2
     go_round
     case rel=>exact⟨5,by omega,rfl,by rw[HS.out];first|rfl|(congr 1;simp)⟩
     case measure=>simp[intOf];omega
    ·have hcell:w.cell? ⟨ad.block,ad.off+5,none⟩=some (.int .u8 x):=by simpa[Addr.add]using hcell
     have i0:(5:Int)<(L:Int):=by omega
     have s1:IntKind.u64.wrap (x*1099511627776)=x*1099511627776:=by rw[IntKind.wrap_u64];omega
     have o1:bits .or .u64 A (x*1099511627776)=A+x*1099511627776:=or_add64 40 A x (by omega) (by show A<(1099511627776:Int);omega) hx.1 (by show A+x*1099511627776<_;omega)
     clear hbd hlt
     go_wp2
     go_round
     case rel=>exact⟨6,by omega,rfl,by rw[HS.out];first|rfl|(congr 1;simp)⟩
     case measure=>simp[intOf];omega
    ·have hcell:w.cell? ⟨ad.block,ad.off+6,none⟩=some (.int .u8 x):=by simpa[Addr.add]using hcell
     have i0:(6:Int)<(L:Int):=by omega
     have s1:IntKind.u64.wrap (x*281474976710656)=x*281474976710656:=by rw[IntKind.wrap_u64];omega
     have o1:bits .or .u64 A (x*281474976710656)=A+x*281474976710656:=or_add64 48 A x (by omega) (by show A<(281474976710656:Int);omega) hx.1 (by show A+x*281474976710656<_;omega)
     clear hbd hlt
     go_wp2
     go_round
     case rel=>exact⟨7,by omega,rfl,by rw[HS.out];first|rfl|(congr 1;simp)⟩
     case measure=>simp[intOf];omega
    ·have hcell:w.cell? ⟨ad.block,ad.off+7,none⟩=some (.int .u8 x):=by simpa[Addr.add]using hcell
     have i0:(7:Int)<(L:Int):=by omega
     have s1:IntKind.u64.wrap (x*72057594037927936)=x*72057594037927936:=by rw[IntKind.wrap_u64];omega
     have o1:bits .or .u64 A (x*72057594037927936)=A+x*72057594037927936:=or_add64 56 A x (by omega) (by show A<(72057594037927936:Int);omega) hx.1 (by show A+x*72057594037927936<_;omega)
     clear hbd hlt
     go_wp2
     go_round
     case rel=>exact⟨8,by omega,rfl,by rw[HS.out];first|rfl|(congr 1;simp)⟩
     case measure=>simp[intOf];omega
   ·obtain rfl:k=L:=by omega
    go_wp2
    go_ret
    exact⟨rfl,rfl⟩
end
section
open Go.ChangeShapes Go.WideShapes Go.ChangeAt Go.RowKit
set_option maxRecDepth 100000
def spreadC(v:Int)(i:Nat):Array Value:=#[.int .u8 (if 0<i then byteOf v 0 else 0),.int .u8 (if 1<i then byteOf v 1 else 0),.int .u8 (if 2<i then byteOf v 2 else 0),.int .u8 (if 3<i then byteOf v 3 else 0),.int .u8 (if 4<i then byteOf v 4 else 0),.int .u8 (if 5<i then byteOf v 5 else 0),.int .u8 (if 6<i then byteOf v 6 else 0),.int .u8 (if 7<i then byteOf v 7 else 0)]
theorem spreadC_0(v:Int):spreadC v 0=#[.int .u8 0,.int .u8 0,.int .u8 0,.int .u8 0,.int .u8 0,.int .u8 0,.int .u8 0,.int .u8 0]:=rfl
theorem spreadC_1(v:Int):spreadC v 1=#[.int .u8 (byteOf v 0),.int .u8 0,.int .u8 0,.int .u8 0,.int .u8 0,.int .u8 0,.int .u8 0,.int .u8 0]:=rfl
theorem spreadC_2(v:Int):spreadC v 2=#[.int .u8 (byteOf v 0),.int .u8 (byteOf v 1),.int .u8 0,.int .u8 0,.int .u8 0,.int .u8 0,.int .u8 0,.int .u8 0]:=rfl
theorem spreadC_3(v:Int):spreadC v 3=#[.int .u8 (byteOf v 0),.int .u8 (byteOf v 1),.int .u8 (byteOf v 2),.int .u8 0,.int .u8 0,.int .u8 0,.int .u8 0,.int .u8 0]:=rfl
theorem spreadC_4(v:Int):spreadC v 4=#[.int .u8 (byteOf v 0),.int .u8 (byteOf v 1),.int .u8 (byteOf v 2),.int .u8 (byteOf v 3),.int .u8 0,.int .u8 0,.int .u8 0,.int .u8 0]:=rfl
theorem spreadC_5(v:Int):spreadC v 5=#[.int .u8 (byteOf v 0),.int .u8 (byteOf v 1),.int .u8 (byteOf v 2),.int .u8 (byteOf v 3),.int .u8 (byteOf v 4),.int .u8 0,.int .u8 0,.int .u8 0]:=rfl
theorem spreadC_6(v:Int):spreadC v 6=#[.int .u8 (byteOf v 0),.int .u8 (byteOf v 1),.int .u8 (byteOf v 2),.int .u8 (byteOf v 3),.int .u8 (byteOf v 4),.int .u8 (byteOf v 5),.int .u8 0,.int .u8 0]:=rfl
theorem spreadC_7(v:Int):spreadC v 7=#[.int .u8 (byteOf v 0),.int .u8 (byteOf v 1),.int .u8 (byteOf v 2),.int .u8 (byteOf v 3),.int .u8 (byteOf v 4),.int .u8 (byteOf v 5),.int .u8 (byteOf v 6),.int .u8 0]:=rfl
theorem spreadC_8(v:Int):spreadC v 8=#[.int .u8 (byteOf v 0),.int .u8 (byteOf v 1),.int .u8 (byteOf v 2),.int .u8 (byteOf v 3),.int .u8 (byteOf v 4),.int .u8 (byteOf v 5),.int .u8 (byteOf v 6),.int .u8 (byteOf v 7)]:=rfl
set_option maxHeartbeats 4000000
theorem spread_any(v:Int)(v0:0≤v)(v1:v<18446744073709551616)(w:World):
  Calls Tryz.prog 149 #[.int .u64 v] w fun e w'=>e=.returned (.agg (spreadC v 8))∧Below w.heap.size w w':=by
 go_enter Tryz.func149,Tryz.ntmps149
 go_wp2
 go_loopw [5] (fun v5 wr=>∃k:Nat,k≤8∧v5=.int .i64 k∧wr=(w.alloc (.cells (spreadC v 0) 194)).alloc (.cells (spreadC v k) 194)) (fun v5 _=>8-(intOf v5).toNat)
 case atStart=>exact⟨0,by omega,rfl,rfl⟩
 case round=>
  obtain⟨k,hk,rfl,rfl⟩:=hrel
  have h8:k=0∨k=1∨k=2∨k=3∨k=4∨k=5∨k=6∨k=7∨k=8:=by omega
  rcases h8 with rfl|rfl|rfl|rfl|rfl|rfl|rfl|rfl|rfl
  ·have hV:=Lib.hid (show byteOf v 0=v%256 by unfold byteOf;simp)
   rw[spreadC_0]
   go_wp2
   go_roundw
   case rel=>exact⟨1,by omega,rfl,by rw[spreadC_1,hV.out]⟩
   case measure=>simp[intOf]
  ·have hV:=Lib.hid (show byteOf v 1=v/256%256 by unfold byteOf;simp)
   rw[spreadC_0,spreadC_1]
   go_wp2
   go_roundw
   case rel=>exact⟨2,by omega,rfl,by rw[spreadC_2,hV.out]⟩
   case measure=>simp[intOf]
  ·have hV:=Lib.hid (show byteOf v 2=v/65536%256 by unfold byteOf;simp)
   rw[spreadC_0,spreadC_2]
   go_wp2
   go_roundw
   case rel=>exact⟨3,by omega,rfl,by rw[spreadC_3,hV.out]⟩
   case measure=>simp[intOf]
  ·have hV:=Lib.hid (show byteOf v 3=v/16777216%256 by unfold byteOf;simp)
   rw[spreadC_0,spreadC_3]
   go_wp2
   go_roundw
   case rel=>exact⟨4,by omega,rfl,by rw[spreadC_4,hV.out]⟩
   case measure=>simp[intOf]
  ·have hV:=Lib.hid (show byteOf v 4=v/4294967296%256 by unfold byteOf;simp)
   rw[spreadC_0,spreadC_4]
   go_wp2
   go_roundw
   case rel=>exact⟨5,by omega,rfl,by rw[spreadC_5,hV.out]⟩
   case measure=>simp[intOf]
  ·have hV:=Lib.hid (show byteOf v 5=v/1099511627776%256 by unfold byteOf;simp)
   rw[spreadC_0,spreadC_5]
   go_wp2
   go_roundw
   case rel=>exact⟨6,by omega,rfl,by rw[spreadC_6,hV.out]⟩
   case measure=>simp[intOf]
  ·have hV:=Lib.hid (show byteOf v 6=v/281474976710656%256 by unfold byteOf;simp)
   rw[spreadC_0,spreadC_6]
   go_wp2
   go_roundw
   case rel=>exact⟨7,by omega,rfl,by rw[spreadC_7,hV.out]⟩
   case measure=>simp[intOf]
  ·have hV:=Lib.hid (show byteOf v 7=v/72057594037927936 by unfold byteOf;simp;omega)
   rw[spreadC_0,spreadC_7]
   go_wp2
   go_roundw
   case rel=>exact⟨8,by omega,rfl,by rw[spreadC_8,hV.out]⟩
   case measure=>simp[intOf]
  ·rw[spreadC_0,spreadC_8]
   go_wp2
   exact bodyPost_ret (v:=.agg (spreadC v 8)) (by simp[results,Tryz.results149,go_sem,spreadC_8]) rfl ⟨rfl,below_last (below_last (Below.refl _ _) _) _⟩
end
end Go.Proofs.YtmdncgfheeijaaaGreat
