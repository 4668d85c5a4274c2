import Derived.KernelRfl
import Derived.Test.YtmdncgfheeijaaaGreatKVG20
namespace Go.Proofs.YtmdncgfheeijaaaGreat
set_option maxRecDepth 100000
def spelledF(o:Int):List Int:=(if o/65536=0 then[]else[o/65536%256])++((if o/256=0 then[]else[o/256%256])++[o%256])
structure Cand where
 opc:Int
 nam:Option Bool
 rm:Option (Bool×Option Bool×Int)
 tail:Option (Nat×Nat)
def ab(o:Int)(t:Option (Nat×Nat)):Cand:=⟨o,none,some (false,some true,0),t⟩
def oneH(c reg:Int)(m3:Bool):Option (Frm×Bool):=
 if c=243∨c=15∨c=242∨c=102 then none
 else if(firstF c reg m3).2.2 then none else if(firstF c reg m3).2.1 then some ((firstF c reg m3).1,false)else none
def ofS(x:Frm×Bool):Option (Frm×Bool):=if x.2 then some (x.1,false)else none
def twoH(h:Int):Option (Frm×Bool):=
 if 0x0f00≤h∧h<0x1000 then ofS (secondF 0 (h-0x0f00))
 else if 0xf300≤h∧h<0xf400 then(if h-0xf300=164∨h-0xf300=165∨h-0xf300=170∨h-0xf300=171 then some ((firstF (h-0xf300) (-1) false).1,true)else none)
 else if 0x660f00≤h∧h<0x661000 then ofS (secondF 102 (h-0x660f00))
 else if 0xf20f00≤h∧h<0xf21000 then ofS (secondF 242 (h-0xf20f00))
 else none
def frmH(h reg:Int)(m3:Bool):Option (Frm×Bool):=if h<256 then oneH h reg m3 else twoH h
theorem spelled_1(c:Int)(h0:0≤c)(h1:c<256):spelledF c=[c]:=by
 unfold spelledF
 rw[if_pos (by omega),if_pos (by omega),List.nil_append,List.nil_append,show c%256=c by omega]
theorem spelled_2(p c:Int)(p0:0<p)(p1:p<256)(h0:0≤c)(h1:c<256):spelledF (p*256+c)=[p,c]:=by
 unfold spelledF
 rw[if_pos (by omega),if_neg (by omega),show(p*256+c)/256%256=p by omega,show(p*256+c)%256=c by omega]
 rfl
theorem spelled_3(p q c:Int)(p0:0<p)(p1:p<256)(q0:0≤q)(q1:q<256)(h0:0≤c)(h1:c<256):spelledF (p*65536+q*256+c)=[p,q,c]:=by
 unfold spelledF
 rw[if_neg (by omega),if_neg (by omega),show(p*65536+q*256+c)/65536%256=p by omega,show(p*65536+q*256+c)/256%256=q by omega,show(p*65536+q*256+c)%256=c by omega]
 rfl
theorem one_head{L:Nat}{bs:Nat→Int}{x:Ins}(hb:∀i,0≤bs i∧bs i<256)(h:oneF L bs=(x,0)):
  ∃hN f rep,0≤hN∧frmH hN (behF L bs 1) (behM L bs 1)=some (f,rep)∧(spelledF hN).length≤L∧(∀i,i<(spelledF hN).length→bs i=lst (spelledF hN) i)∧goF L bs f rep (spelledF hN).length=(x,0):=by
 have h1:=hb 0
 have h2:=hb 1
 have h3:=hb 2
 have cl1:∀(a:Int),bs 0=a→∀i,i<[a].length→bs i=lst [a] i:=fun a h i hi=>by
  obtain rfl:i=0:=by simp at hi;omega
  exact h
 have cl2:∀(a b:Int),bs 0=a→bs 1=b→∀i,i<[a,b].length→bs i=lst [a,b] i:=fun a b h h' i hi=>by
  simp at hi
  rcases(show i=0∨i=1 by omega)with rfl|rfl
  ·exact h
  ·exact h'
 have cl3:∀(a b c:Int),bs 0=a→bs 1=b→bs 2=c→∀i,i<[a,b,c].length→bs i=lst [a,b,c] i:=fun a b c h h' h'' i hi=>by
  simp at hi
  rcases(show i=0∨i=1∨i=2 by omega)with rfl|rfl|rfl
  ·exact h
  ·exact h'
  ·exact h''
 unfold oneF at h
 by_cases h0:L=0
 ·rw[if_pos h0]at h;injection h with _ h;exact absurd h (by decide)
 rw[if_neg h0]at h
 by_cases hF3:bs 0=243
 ·rw[if_pos hF3]at h
  by_cases hl:L<2
  ·rw[if_pos hl]at h;injection h with _ h;exact absurd h (by decide)
  rw[if_neg hl]at h
  by_cases hs:bs 1=164∨bs 1=165∨bs 1=170∨bs 1=171
  ·rw[if_pos hs]at h
   refine⟨243*256+bs 1,(firstF (bs 1) (-1) false).1,true,by omega,?_,?_,?_,?_⟩
   rotate_left
   ·rw[spelled_2 243 (bs 1) (by omega) (by omega) h2.1 h2.2];exact Nat.le_of_not_lt hl
   ·rw[spelled_2 243 (bs 1) (by omega) (by omega) h2.1 h2.2];exact cl2 _ _ hF3 rfl
   ·rw[spelled_2 243 (bs 1) (by omega) (by omega) h2.1 h2.2];exact h
   ·unfold frmH twoH
    rw[if_neg (by omega),if_neg (by omega),if_pos (by omega),show 243*256+bs 1-0xf300=bs 1 by omega,if_pos hs]
  ·rw[if_neg hs]at h;injection h with _ h;exact absurd h (by decide)
 rw[if_neg hF3]at h
 have two:∀(p:Int) (k:Nat),twoF L bs p k=(x,0)→k<L∧ofS (secondF p (bs k))=some ((secondF p (bs k)).1,false)∧goF L bs (secondF p (bs k)).1 false (k+1)=(x,0):=fun p k h=>by
  unfold twoF at h
  by_cases hl:L≤k
  ·rw[if_pos hl]at h;injection h with _ h;exact absurd h (by decide)
  rw[if_neg hl]at h
  by_cases hs:(secondF p (bs k)).2=true
  ·rw[if_pos hs]at h
   exact⟨by omega,by unfold ofS;rw[if_pos hs],h⟩
  ·rw[if_neg hs]at h;injection h with _ h;exact absurd h (by decide)
 by_cases h0F:bs 0=15
 ·rw[if_pos h0F]at h
  obtain⟨t1,t2,t3⟩:=two 0 1 h
  refine⟨15*256+bs 1,(secondF 0 (bs 1)).1,false,by omega,?_,?_,?_,?_⟩
  rotate_left
  ·rw[spelled_2 15 (bs 1) (by omega) (by omega) h2.1 h2.2];exact t1
  ·rw[spelled_2 15 (bs 1) (by omega) (by omega) h2.1 h2.2];exact cl2 _ _ h0F rfl
  ·rw[spelled_2 15 (bs 1) (by omega) (by omega) h2.1 h2.2];exact t3
  ·unfold frmH twoH
   rw[if_neg (by omega),if_pos (by omega),show 15*256+bs 1-0x0f00=bs 1 by omega,t2]
 rw[if_neg h0F]at h
 by_cases hp:bs 0=242∨bs 0=102
 ·rw[if_pos hp]at h
  by_cases hl:L<2
  ·rw[if_pos hl]at h;injection h with _ h;exact absurd h (by decide)
  rw[if_neg hl]at h
  by_cases hs:bs 1=15
  ·rw[if_pos hs]at h
   obtain⟨t1,t2,t3⟩:=two (bs 0) 2 h
   have e:=spelled_3 (bs 0) 15 (bs 2) (by omega) h1.2 (by omega) (by omega) h3.1 h3.2
   refine⟨bs 0*65536+15*256+bs 2,(secondF (bs 0) (bs 2)).1,false,by omega,?_,?_,?_,?_⟩
   rotate_left
   ·rw[e];exact t1
   ·rw[e];exact cl3 _ _ _ rfl hs rfl
   ·rw[e];exact t3
   ·unfold frmH twoH
    rcases hp with hp|hp
    ·rw[hp]at t2 ⊢
     rw[if_neg (by omega),if_neg (by omega),if_neg (by omega),if_neg (by omega),if_pos (by omega),show 242*65536+15*256+bs 2-0xf20f00=bs 2 by omega,t2]
    ·rw[hp]at t2 ⊢
     rw[if_neg (by omega),if_neg (by omega),if_neg (by omega),if_pos (by omega),show 102*65536+15*256+bs 2-0x660f00=bs 2 by omega,t2]
  ·rw[if_neg hs]at h;injection h with _ h;exact absurd h (by decide)
 rw[if_neg hp]at h
 by_cases hw:(firstF (bs 0) (behF L bs 1) (behM L bs 1)).2.2=true
 ·rw[if_pos hw]at h;injection h with _ h;exact absurd h (by decide)
 rw[if_neg hw]at h
 by_cases hok:(firstF (bs 0) (behF L bs 1) (behM L bs 1)).2.1=true
 ·rw[if_pos hok]at h
  refine⟨bs 0,(firstF (bs 0) (behF L bs 1) (behM L bs 1)).1,false,h1.1,?_,?_,?_,?_⟩
  rotate_left
  ·rw[spelled_1 (bs 0) h1.1 h1.2];show 1≤L;omega
  ·rw[spelled_1 (bs 0) h1.1 h1.2];exact cl1 _ rfl
  ·rw[spelled_1 (bs 0) h1.1 h1.2];exact h
  ·unfold frmH oneH
   rw[if_pos h1.2,if_neg (by omega),if_neg hw,if_pos hok]
 ·rw[if_neg hok]at h;injection h with _ h;exact absurd h (by decide)
end Go.Proofs.YtmdncgfheeijaaaGreat
