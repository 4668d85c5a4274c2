import Derived.KernelRfl
import Derived.Test.YtlnahkkemjgjbaaGreatKNP
namespace Go.Proofs.YtlnahkkemjgjbaaGreat
def lowF (v:Int) (n:Nat):List Int:=(List.range n).map fun k=>v / ((2 ^ (8 * k):Nat):Int) % 256
def spelledF (o:Int):List Int:=(if o / 65536=0 then [] else [o / 65536 % 256]) ++ ((if o / 256=0 then [] else [o / 256 % 256]) ++ [o % 256])
def wF (size:Int):Int:=if size=1 then 0 else 1
def nF (size:Int):Nat:=if size=1 then 1 else 4
structure Cand where
  opc:Int
  nam:Option Bool
  rm:Option (Bool × Option Bool × Int)
  tail:Option (Nat × Nat)
def pl (o:Int) (t:Option (Nat × Nat)):Cand:=⟨o,none,none,t⟩
def nm (o:Int) (s:Bool) (t:Option (Nat × Nat)):Cand:=⟨o,some s,none,t⟩
def ab (o:Int) (t:Option (Nat × Nat)):Cand:=⟨o,none,some (false,some true,0),t⟩
def ba (o:Int) (t:Option (Nat × Nat)):Cand:=⟨o,none,some (true,some false,0),t⟩
def grp (o r:Int) (t:Option (Nat × Nat)):Cand:=⟨o,none,some (false,none,r),t⟩
def reckC (size r:Int):List Cand:=[ab (r * 8+wF size) none,ba (r * 8+wF size+2) none,grp 0x83 r (some (1,1)),pl (r * 8+wF size+4) (some (1,nF size)),grp (0x80+wF size) r (some (1,nF size))]
def shiftC (r:Int):List Cand:=[grp 0xd1 r none,grp 0xd3 r none,grp 0xc1 r (some (1,1))]
def intoC (op cond size:Int):Int :=
  if op=21 then 0x8d else if op=36 then 0x0f40+cond % 16 else if op=19 then 0x0fb6+wF size else if op=20 then 0x0fbe+wF size
  else if op=59 then 0xf20f2a else if op=60 then 0xf20f2c else if op=58 then 0xf20f51 else if op=52 then 0xf20f58 else if op=53 then 0xf20f59 else if op=54 then 0xf20f5c
  else if op=55 then 0xf20f5d else if op=56 then 0xf20f5e else if op=57 then 0xf20f5f else if op=61 then 0x660f2e else 0
def bareC (op size:Int) (rep:Bool):Int :=
  if op=50 then 0x90 else if op=37 then 0x98 else if op=38 then 0x99 else if op=46 then (if rep then 0xf300 else 0)+0xa4+wF size else if op=47 then (if rep then 0xf300 else 0)+0xaa+wF size
  else if op=48 then 0xac+wF size else if op=49 then 0xc9 else if op=40 then 0xcc else if op=39 then 0xf4 else if op=43 then 0xf5 else if op=41 then 0xf8 else if op=42 then 0xf9
  else if op=44 then 0xfc else if op=45 then 0xfd else 0
def singleC (op cond size:Int) (rep:Bool):List Cand:=if intoC op cond size ≠ 0 then [ba (intoC op cond size) none] else if bareC op size rep ≠ 0 then [pl (bareC op size rep) none] else []
def ledC (op cond size:Int) (rep:Bool):List Cand :=
  if op=31 then [pl (0x70+cond % 16) (some (0,1)),pl (0x0f80+cond % 16) (some (0,4))]
  else if op=32 then [pl 0xeb (some (0,1)),pl 0xe9 (some (0,4)),grp 0xff 4 none]
  else if op=33 then [pl 0xe8 (some (0,4)),grp 0xff 2 none]
  else if op=34 then [pl 0xc3 none,pl 0xc2 (some (0,2))]
  else if op=35 then [grp (0x0f90+cond % 16) 0 none]
  else singleC op cond size rep
def movedC (op cond size:Int) (rep:Bool):List Cand :=
  if op=18 then [nm (0xb0+wF size * 8) false (some (1,nF size)),pl (0xa0+wF size) (some (1,4)),pl (0xa2+wF size) (some (0,4)),ab (0x88+wF size) none,ba (0x8a+wF size) none,grp (0xc6+wF size) 0 (some (1,nF size))]
  else if op=22 then [nm 0x90 true none,ab (0x86+wF size) none]
  else if op=23 then [nm 0x50 false none,pl 0x6a (some (0,1)),pl 0x68 (some (0,4)),grp 0xff 6 none]
  else if op=24 then [nm 0x58 false none,grp 0x8f 0 none]
  else if op=25 then [ba 0x0faf none,ba 0x6b (some (2,1)),ba 0x69 (some (2,4))]
  else if op=51 then [ba 0xf20f10 none,ab 0xf20f11 none]
  else ledC op cond size rep
def candF (op cond size:Int) (rep:Bool):List Cand :=
  if 1 ≤ op∧op ≤ 8 then reckC size (op - 1)
  else if op=9 then [ab (0x84+wF size) none,pl (0xa8+wF size) (some (1,nF size)),grp (0xf6+wF size) 0 (some (1,nF size))]
  else if 10 ≤ op∧op ≤ 15 then [grp (0xf6+wF size) (2+op - 10) none]
  else if op=16 ∨ op=17 then [nm (0x40+(op - 16) * 8) false none,grp (0xfe+wF size) (op - 16) none]
  else if op=26 then shiftC 0
  else if op=27 then shiftC 1
  else if op=28 then shiftC 4
  else if op=29 then shiftC 5
  else if op=30 then shiftC 7
  else movedC op cond size rep
def selO (x:Ins) (s:Bool):Opd:=if s then x.b else x.a
def selT (x:Ins) (s:Nat):Int:=if s=0 then x.a.disp else if s=1 then x.b.disp else x.c
def plainO (o:Opd):Opd:=if o.kind=2 ∨ o.kind=5 then { o with kind:=1 } else o
def tailF (x:Ins) (t:Option (Nat × Nat)):List Int:=match t with
  | none=>[]
  | some (s,n)=>lowF (selT x s) n
def placedF (o reg:Int) (rm:Opd) (t:List Int):List Int:=if putOk reg (plainO rm) then spelledF o ++ (putF reg (plainO rm) ++ t) else []
def namedF (o:Int) (r:Opd) (t:List Int):List Int:=spelledF (o+r.reg % 8) ++ t
def fillF (x:Ins) (c:Cand):List Int:=match c.rm with
  | some (s,some q,_)=>placedF c.opc (selO x q).reg (selO x s) (tailF x c.tail)
  | some (s,none,n)=>placedF c.opc n (selO x s) (tailF x c.tail)
  | none=>match c.nam with
    | some s=>namedF c.opc (selO x s) (tailF x c.tail)
    | none=>spelledF c.opc ++ tailF x c.tail
def spellF (x:Ins):List (List Int):=(candF x.op x.cond x.size x.rep).map (fillF x)
def isF' (x:Ins) (E:List Int):Bool:=decide (oneF E.length (lst E)=({ x with len:=E.length },0))
def encF (x:Ins):List Int × Int:=match (spellF x).find? (isF' x) with
  | some E=>(E,0)
  | none=>([],22)
def oneH (c reg:Int) (m3:Bool):Option (Frm × Bool) :=
  if c=243 ∨ c=15 ∨ c=242 ∨ c=102 then none
  else if (firstF c reg m3).2.2 then none else if (firstF c reg m3).2.1 then some ((firstF c reg m3).1,false) else none
def ofS (x:Frm × Bool):Option (Frm × Bool):=if x.2 then some (x.1,false) else none
def twoH (h:Int):Option (Frm × Bool) :=
  if 0x0f00 ≤ h∧h < 0x1000 then ofS (secondF 0 (h - 0x0f00))
  else if 0xf300 ≤ h∧h < 0xf400 then (if h - 0xf300=164 ∨ h - 0xf300=165 ∨ h - 0xf300=170 ∨ h - 0xf300=171 then some ((firstF (h - 0xf300) (-1) false).1,true) else none)
  else if 0x660f00 ≤ h∧h < 0x661000 then ofS (secondF 102 (h - 0x660f00))
  else if 0xf20f00 ≤ h∧h < 0xf21000 then ofS (secondF 242 (h - 0xf20f00))
  else none
def frmH (h reg:Int) (m3:Bool):Option (Frm × Bool):=if h < 256 then oneH h reg m3 else twoH h
theorem spelled_1 (c:Int) (h0:0 ≤ c) (h1:c < 256):spelledF c=[c]:=by
  unfold spelledF
  rw [if_pos (by omega),if_pos (by omega),List.nil_append,List.nil_append,show c % 256=c by omega]
theorem spelled_2 (p c:Int) (p0:0 < p) (p1:p < 256) (h0:0 ≤ c) (h1:c < 256):spelledF (p * 256+c)=[p,c]:=by
  unfold spelledF
  rw [if_pos (by omega),if_neg (by omega),show (p * 256+c) / 256 % 256=p by omega,show (p * 256+c) % 256=c by omega]
  rfl
theorem spelled_3 (p q c:Int) (p0:0 < p) (p1:p < 256) (q0:0 ≤ q) (q1:q < 256) (h0:0 ≤ c) (h1:c < 256):spelledF (p * 65536+q * 256+c)=[p,q,c]:=by
  unfold spelledF
  rw [if_neg (by omega),if_neg (by omega),show (p * 65536+q * 256+c) / 65536 % 256=p by omega,show (p * 65536+q * 256+c) / 256 % 256=q by omega,show (p * 65536+q * 256+c) % 256=c by omega]
  rfl
theorem one_head {L:Nat} {bs:Nat→Int} {x:Ins} (hb:∀ i,0 ≤ bs i∧bs i < 256) (h:oneF L bs=(x,0)) :
    ∃ hN f rep,0 ≤ hN∧frmH hN (behF L bs 1) (behM L bs 1)=some (f,rep)∧(spelledF hN).length ≤ L∧(∀ i,i < (spelledF hN).length→bs i=lst (spelledF hN) i)∧goF L bs f rep (spelledF hN).length=(x,0):=by
  have h1:=hb 0
  have h2:=hb 1
  have h3:=hb 2
  have cl1:∀ (a:Int),bs 0=a→∀ i,i < [a].length→bs i=lst [a] i:=fun a h i hi=>by
    obtain rfl:i=0:=by simp at hi;omega
    exact h
  have cl2:∀ (a b:Int),bs 0=a→bs 1=b→∀ i,i < [a,b].length→bs i=lst [a,b] i:=fun a b h h' i hi=>by
    simp at hi
    rcases (show i=0 ∨ i=1 by omega) with rfl | rfl
    · exact h
    · exact h'
  have cl3:∀ (a b c:Int),bs 0=a→bs 1=b→bs 2=c→∀ i,i < [a,b,c].length→bs i=lst [a,b,c] i:=fun a b c h h' h'' i hi=>by
    simp at hi
    rcases (show i=0 ∨ i=1 ∨ i=2 by omega) with rfl | rfl | rfl
    · exact h
    · exact h'
    · exact h''
  unfold oneF at h
  by_cases h0:L=0
  · rw [if_pos h0] at h;injection h with _ h;exact absurd h (by decide)
  rw [if_neg h0] at h
  by_cases hF3:bs 0=243
  · rw [if_pos hF3] at h
    by_cases hl:L < 2
    · rw [if_pos hl] at h;injection h with _ h;exact absurd h (by decide)
    rw [if_neg hl] at h
    by_cases hs:bs 1=164 ∨ bs 1=165 ∨ bs 1=170 ∨ bs 1=171
    · rw [if_pos hs] at h
      refine ⟨243 * 256+bs 1,(firstF (bs 1) (-1) false).1,true,by omega,?_,?_,?_,?_⟩
      rotate_left
      · rw [spelled_2 243 (bs 1) (by omega) (by omega) h2.1 h2.2];exact Nat.le_of_not_lt hl
      · rw [spelled_2 243 (bs 1) (by omega) (by omega) h2.1 h2.2];exact cl2 _ _ hF3 rfl
      · rw [spelled_2 243 (bs 1) (by omega) (by omega) h2.1 h2.2];exact h
      · unfold frmH twoH
        rw [if_neg (by omega),if_neg (by omega),if_pos (by omega),show 243 * 256+bs 1 - 0xf300=bs 1 by omega,if_pos hs]
    · rw [if_neg hs] at h;injection h with _ h;exact absurd h (by decide)
  rw [if_neg hF3] at h
  have two:∀ (p:Int) (k:Nat),twoF L bs p k=(x,0)→k < L∧ofS (secondF p (bs k))=some ((secondF p (bs k)).1,false)∧goF L bs (secondF p (bs k)).1 false (k+1)=(x,0):=fun p k h=>by
    unfold twoF at h
    by_cases hl:L ≤ k
    · rw [if_pos hl] at h;injection h with _ h;exact absurd h (by decide)
    rw [if_neg hl] at h
    by_cases hs:(secondF p (bs k)).2=true
    · rw [if_pos hs] at h
      exact ⟨by omega,by unfold ofS;rw [if_pos hs],h⟩
    · rw [if_neg hs] at h;injection h with _ h;exact absurd h (by decide)
  by_cases h0F:bs 0=15
  · rw [if_pos h0F] at h
    obtain ⟨t1,t2,t3⟩:=two 0 1 h
    refine ⟨15 * 256+bs 1,(secondF 0 (bs 1)).1,false,by omega,?_,?_,?_,?_⟩
    rotate_left
    · rw [spelled_2 15 (bs 1) (by omega) (by omega) h2.1 h2.2];exact t1
    · rw [spelled_2 15 (bs 1) (by omega) (by omega) h2.1 h2.2];exact cl2 _ _ h0F rfl
    · rw [spelled_2 15 (bs 1) (by omega) (by omega) h2.1 h2.2];exact t3
    · unfold frmH twoH
      rw [if_neg (by omega),if_pos (by omega),show 15 * 256+bs 1 - 0x0f00=bs 1 by omega,t2]
  rw [if_neg h0F] at h
  by_cases hp:bs 0=242 ∨ bs 0=102
  · rw [if_pos hp] at h
    by_cases hl:L < 2
    · rw [if_pos hl] at h;injection h with _ h;exact absurd h (by decide)
    rw [if_neg hl] at h
    by_cases hs:bs 1=15
    · rw [if_pos hs] at h
      obtain ⟨t1,t2,t3⟩:=two (bs 0) 2 h
      have e:=spelled_3 (bs 0) 15 (bs 2) (by omega) h1.2 (by omega) (by omega) h3.1 h3.2
      refine ⟨bs 0 * 65536+15 * 256+bs 2,(secondF (bs 0) (bs 2)).1,false,by omega,?_,?_,?_,?_⟩
      rotate_left
      · rw [e];exact t1
      · rw [e];exact cl3 _ _ _ rfl hs rfl
      · rw [e];exact t3
      · unfold frmH twoH
        rcases hp with hp | hp
        · rw [hp] at t2 ⊢
          rw [if_neg (by omega),if_neg (by omega),if_neg (by omega),if_neg (by omega),if_pos (by omega),show 242 * 65536+15 * 256+bs 2 - 0xf20f00=bs 2 by omega,t2]
        · rw [hp] at t2 ⊢
          rw [if_neg (by omega),if_neg (by omega),if_neg (by omega),if_pos (by omega),show 102 * 65536+15 * 256+bs 2 - 0x660f00=bs 2 by omega,t2]
    · rw [if_neg hs] at h;injection h with _ h;exact absurd h (by decide)
  rw [if_neg hp] at h
  by_cases hw:(firstF (bs 0) (behF L bs 1) (behM L bs 1)).2.2=true
  · rw [if_pos hw] at h;injection h with _ h;exact absurd h (by decide)
  rw [if_neg hw] at h
  by_cases hok:(firstF (bs 0) (behF L bs 1) (behM L bs 1)).2.1=true
  · rw [if_pos hok] at h
    refine ⟨bs 0,(firstF (bs 0) (behF L bs 1) (behM L bs 1)).1,false,h1.1,?_,?_,?_,?_⟩
    rotate_left
    · rw [spelled_1 (bs 0) h1.1 h1.2];show 1 ≤ L;omega
    · rw [spelled_1 (bs 0) h1.1 h1.2];exact cl1 _ rfl
    · rw [spelled_1 (bs 0) h1.1 h1.2];exact h
    · unfold frmH oneH
      rw [if_pos h1.2,if_neg (by omega),if_neg hw,if_pos hok]
  · rw [if_neg hok] at h;injection h with _ h;exact absurd h (by decide)
theorem of_s {x:Frm × Bool} {f:Frm} {rep:Bool} (h:ofS x=some (f,rep)):x.2=true∧f=x.1∧rep=false:=by
  unfold ofS at h
  by_cases hx:x.2=true
  · rw [if_pos hx] at h
    injection h with h
    injection h with h1 h2
    exact ⟨hx,h1.symm,h2.symm⟩
  · rw [if_neg hx] at h;cases h
theorem head_one {L:Nat} {bs:Nat→Int} {hN:Int} {f:Frm} {rep:Bool} (h0:0 ≤ hN) (h:frmH hN (behF L bs 1) (behM L bs 1)=some (f,rep)) (hL:(spelledF hN).length ≤ L) (hb:∀ i,i < (spelledF hN).length→bs i=lst (spelledF hN) i):oneF L bs=goF L bs f rep (spelledF hN).length:=by
  unfold frmH at h
  by_cases h1:hN < 256
  · rw [if_pos h1] at h
    rw [spelled_1 hN h0 h1] at hb hL ⊢
    have e0:bs 0=hN:=hb 0 (by simp)
    unfold oneH at h
    by_cases hn:hN=243 ∨ hN=15 ∨ hN=242 ∨ hN=102
    · rw [if_pos hn] at h;cases h
    rw [if_neg hn] at h
    rw [← e0] at h hn
    by_cases hw:(firstF (bs 0) (behF L bs 1) (behM L bs 1)).2.2=true
    · rw [if_pos hw] at h;cases h
    rw [if_neg hw] at h
    by_cases hok:(firstF (bs 0) (behF L bs 1) (behM L bs 1)).2.1=true
    · rw [if_pos hok] at h
      injection h with h
      injection h with h2 h3
      unfold oneF
      rw [if_neg (by simp at hL;omega),if_neg (by omega),if_neg (by omega),if_neg (by omega),if_neg hw,if_pos hok,h2,h3]
      rfl
    · rw [if_neg hok] at h;cases h
  rw [if_neg h1] at h
  unfold twoH at h
  by_cases c1:0x0f00 ≤ hN∧hN < 0x1000
  · rw [if_pos c1] at h
    obtain ⟨s1,rfl,rfl⟩:=of_s h
    have e:=spelled_2 15 (hN - 0x0f00) (by omega) (by omega) (by omega) (by omega)
    rw [show 15 * 256+(hN - 0x0f00)=hN by omega] at e
    rw [e] at hb hL ⊢
    have e0:bs 0=15:=hb 0 (by simp)
    have e1:bs 1=hN - 0x0f00:=hb 1 (by simp)
    simp at hL
    unfold oneF twoF
    rw [if_neg (by omega),if_neg (by omega),if_pos e0,if_neg (by omega),e1,if_pos s1]
    rfl
  rw [if_neg c1] at h
  by_cases c2:0xf300 ≤ hN∧hN < 0xf400
  · rw [if_pos c2] at h
    by_cases hs:hN - 0xf300=164 ∨ hN - 0xf300=165 ∨ hN - 0xf300=170 ∨ hN - 0xf300=171
    · rw [if_pos hs] at h
      injection h with h
      injection h with h2 h3
      have e:=spelled_2 243 (hN - 0xf300) (by omega) (by omega) (by omega) (by omega)
      rw [show 243 * 256+(hN - 0xf300)=hN by omega] at e
      rw [e] at hb hL ⊢
      have e0:bs 0=243:=hb 0 (by simp)
      have e1:bs 1=hN - 0xf300:=hb 1 (by simp)
      simp at hL
      unfold oneF
      rw [if_neg (by omega),if_pos e0,if_neg (by omega),e1,if_pos hs,h2,h3]
      rfl
    · rw [if_neg hs] at h;cases h
  rw [if_neg c2] at h
  by_cases c3:0x660f00 ≤ hN∧hN < 0x661000
  · rw [if_pos c3] at h
    obtain ⟨s1,rfl,rfl⟩:=of_s h
    have e:=spelled_3 102 15 (hN - 0x660f00) (by omega) (by omega) (by omega) (by omega) (by omega) (by omega)
    rw [show 102 * 65536+15 * 256+(hN - 0x660f00)=hN by omega] at e
    rw [e] at hb hL ⊢
    have e0:bs 0=102:=hb 0 (by simp)
    have e1:bs 1=15:=hb 1 (by simp)
    have e2:bs 2=hN - 0x660f00:=hb 2 (by simp)
    simp at hL
    unfold oneF twoF
    rw [if_neg (by omega),if_neg (by omega),if_neg (by omega),if_pos (by omega),if_neg (by omega),if_pos e1,if_neg (by omega),e2,e0,if_pos s1]
    rfl
  rw [if_neg c3] at h
  by_cases c4:0xf20f00 ≤ hN∧hN < 0xf21000
  · rw [if_pos c4] at h
    obtain ⟨s1,rfl,rfl⟩:=of_s h
    have e:=spelled_3 242 15 (hN - 0xf20f00) (by omega) (by omega) (by omega) (by omega) (by omega) (by omega)
    rw [show 242 * 65536+15 * 256+(hN - 0xf20f00)=hN by omega] at e
    rw [e] at hb hL ⊢
    have e0:bs 0=242:=hb 0 (by simp)
    have e1:bs 1=15:=hb 1 (by simp)
    have e2:bs 2=hN - 0xf20f00:=hb 2 (by simp)
    simp at hL
    unfold oneF twoF
    rw [if_neg (by omega),if_neg (by omega),if_neg (by omega),if_pos (by omega),if_neg (by omega),if_pos e1,if_neg (by omega),e2,e0,if_pos s1]
    rfl
  · rw [if_neg c4] at h;cases h
def isEE (c:UInt8):Bool:=c == 69 || c == 101 || c == 89
def isG (c:UInt8):Bool:=c == 71 || c == 103 || c == 88
def isN (c:UInt8):Bool:=c == 114
def posL (how:List UInt8) (p:UInt8→Bool):Option Bool:=match how with
  | []=>none
  | a :: t=>if p a then some false else match t with
    | []=>none
    | b :: _=>if p b then some true else none
def tlP (size:Int) (i:Nat):List UInt8→Option (Nat × Nat)
  | []=>none
  | c :: l=>if c=76 then some (2,4) else if c=66 then some (2,1) else if needF size c=0 then tlP size (i+1) l else some (i,needF size c)
def hows:List (List UInt8):=[[],[69,71],[71,69],[97,73],[114],[98],[97,114],[114,73],[73],[71,69,76],[71,69,66],[69,73],[69,98],[69],[97,109],[109,97],[69,49],[69,99],[119],[105],[103,69],[88,89],[89,88],[88,101],[103,89]]
def rmGood (rm:Opd):Prop:=(rm.kind=1∧rm=regO 1 rm.reg) ∨ rm.kind=3
theorem plain_turn {rm:Opd} (h:rmGood rm) (k:Int) (hk:k=2 ∨ k=5):plainO (turnO rm k)=rm:=by
  rcases h with ⟨_,h2⟩ | h3
  · obtain ⟨r,rfl⟩:∃ r,rm=regO 1 r:=⟨_,h2⟩
    rcases hk with rfl | rfl <;> rfl
  · simp [turnO,plainO,h3]
theorem plain_self {rm:Opd} (h:rmGood rm):plainO rm=rm:=by
  unfold plainO
  rcases h with ⟨h1,h2⟩ | h3
  · rw [if_neg (by omega)]
  · rw [if_neg (by omega)]
theorem plain_ite {rm:Opd} (h:rmGood rm) (p:Prop) [Decidable p]:plainO (if p then turnO rm 2 else rm)=rm:=by
  split
  · exact plain_turn h 2 (.inl rfl)
  · exact plain_self h
theorem small_reg (size r:Int):(smallO size r).reg=r:=by unfold smallO;split <;> rfl
theorem low_1 (v:Int):lowF v 1=[v % 256]:=by simp [lowF,List.range,List.range.loop]
theorem low_2 (v:Int):lowF v 2=[v % 256,v / 256 % 256]:=by simp [lowF,List.range,List.range.loop]
theorem low_4 (v:Int):lowF v 4=[v % 256,v / 256 % 256,v / 65536 % 256,v / 16777216 % 256]:=by simp [lowF,List.range,List.range.loop]
theorem low_len (v:Int) (n:Nat):(lowF v n).length=n:=by simp [lowF]
theorem sx_low (c:Int) (h:0 ≤ c∧c < 256):sx9 c % 256=c:=by unfold sx9;split <;> omega
theorem val_low {need:Nat} {c:UInt8} {bs:Nat→Int} {k:Nat} (hn:need=0 ∨ need=1 ∨ need=2 ∨ need=4) (hb:∀ i,0 ≤ bs i∧bs i < 256):∀ i,i < need→bs (k+i)=lst (lowF (valF need c bs k) need) i:=by
  intro i hi
  unfold valF
  rcases hn with rfl | rfl | rfl | rfl
  · omega
  · obtain rfl:i=0:=by omega
    rw [if_pos rfl,low_1]
    show bs k=_ % 256
    have:=hb k
    split
    · omega
    · exact (sx_low _ this).symm
  · have h0:=hb k
    have h1:=hb (k+1)
    rw [if_neg (by omega),if_pos rfl,low_2]
    rcases (show i=0 ∨ i=1 by omega) with rfl | rfl
    · show bs k=_ % 256;omega
    · show bs (k+1)=_ / 256 % 256;omega
  · have h0:=hb k
    have h1:=hb (k+1)
    have h2:=hb (k+2)
    have h3:=hb (k+3)
    rw [if_neg (by omega),if_neg (by omega),if_pos rfl,low_4]
    unfold four9
    rcases (show i=0 ∨ i=1 ∨ i=2 ∨ i=3 by omega) with rfl | rfl | rfl | rfl
    · show bs k=_ % 256;omega
    · show bs (k+1)=_ / 256 % 256;omega
    · show bs (k+2)=_ / 65536 % 256;omega
    · show bs (k+3)=_ / 16777216 % 256;omega
theorem val_same {need:Nat} {c:UInt8} {bs bs':Nat→Int} {k k':Nat} (h:∀ i,i < need→bs' (k'+i)=bs (k+i)):valF need c bs' k'=valF need c bs k:=by
  unfold valF
  by_cases h1:need=1
  · rw [if_pos h1,if_pos h1]
    have:=h 0 (by omega)
    rw [Nat.add_zero,Nat.add_zero] at this
    rw [this]
  rw [if_neg h1,if_neg h1]
  by_cases h2:need=2
  · rw [if_pos h2,if_pos h2]
    have e0:=h 0 (by omega)
    rw [Nat.add_zero,Nat.add_zero] at e0
    rw [e0,h 1 (by omega)]
  rw [if_neg h2,if_neg h2]
  by_cases h4:need=4
  · rw [if_pos h4,if_pos h4]
    have e0:=h 0 (by omega)
    rw [Nat.add_zero,Nat.add_zero] at e0
    rw [e0,h 1 (by omega),h 2 (by omega),h 3 (by omega)]
  · rw [if_neg h4,if_neg h4]
theorem need_of (size:Int) (c:UInt8):needF size c=0 ∨ needF size c=1 ∨ needF size c=2 ∨ needF size c=4:=by
  unfold needF
  repeat' (first | omega | split)
structure Shape (i:Ins) (f:Frm) (rm:Opd) (reg:Int) (L:Nat) (bs:Nat→Int) (k:Nat) (x:Ins):Prop where
  op:x.op=i.op
  cond:x.cond=i.cond
  size:x.size=i.size
  rep:x.rep=i.rep
  rmE:∀ s,posL f.how isEE=some s→plainO (selO x s)=rm
  rgE:∀ s,posL f.how isG=some s→(selO x s).reg=reg
  naE:∀ s,posL f.how isN=some s→(selO x s).reg=f.c
  le:k+(tailF x (tlP f.size 0 f.how)).length ≤ L
  bytes:∀ j,j < (tailF x (tlP f.size 0 f.how)).length→bs (k+j)=lst (tailF x (tlP f.size 0 f.how)) j
  again:∀ reg' L' bs' k',(reg'=reg ∨ posL f.how isG=none)→k'+(tailF x (tlP f.size 0 f.how)).length ≤ L'→(∀ j,j < (tailF x (tlP f.size 0 f.how)).length→bs' (k'+j)=lst (tailF x (tlP f.size 0 f.how)) j)→madeF i f rm reg' L' bs' k'=({ x with len:=((k'+(tailF x (tlP f.size 0 f.how)).length:Nat):Int) },0)
theorem step_0 (f:Frm) (rm:Opd) (reg:Int) (L:Nat) (bs:Nat→Int) (s:Mst) (c:UInt8) (h:needF f.size c=0) (hl:s.at_ ≤ L) (h1:c ≠ 76) (h2:c ≠ 66):stepM f rm reg L bs s c=some ⟨s.l ++ pushF f rm reg 0 c,s.c,s.at_⟩:=by
  unfold stepM
  rw [if_neg (by omega),h,if_neg (fun e=>e.elim h1 h2)]
  rfl
theorem step_n (f:Frm) (rm:Opd) (reg:Int) (L:Nat) (bs:Nat→Int) (s:Mst) (c:UInt8) (n:Nat) (h:needF f.size c=n) (hl:s.at_+n ≤ L):stepM f rm reg L bs s c=some ⟨s.l ++ pushF f rm reg (valF n c bs s.at_) c,if c=76 ∨ c=66 then valF n c bs s.at_ else s.c,s.at_+n⟩:=by
  unfold stepM
  rw [h,if_neg (by omega)]
theorem step_x (f:Frm) (rm:Opd) (reg:Int) (L:Nat) (bs:Nat→Int) (s:Mst) (c:UInt8) (n:Nat) (h:needF f.size c=n) (hl:¬ s.at_+n ≤ L):stepM f rm reg L bs s c=none:=by
  unfold stepM
  rw [h,if_pos (by omega)]
theorem bind_step {f:Frm} {rm:Opd} {reg:Int} {L:Nat} {bs:Nat→Int} {s t:Mst} {c:UInt8} {l:List UInt8} {o:Option Mst} (h:stepM f rm reg L bs s c=some t) (h2:runM f rm reg L bs l t=o):runM f rm reg L bs (c :: l) s=o:=by
  show (stepM f rm reg L bs s c).bind _=_
  rw [h]
  exact h2
theorem bind_none {f:Frm} {rm:Opd} {reg:Int} {L:Nat} {bs:Nat→Int} {s:Mst} {c:UInt8} {l:List UInt8} (h:stepM f rm reg L bs s c=none):runM f rm reg L bs (c :: l) s=none:=by
  show (stepM f rm reg L bs s c).bind _=_
  rw [h]
  rfl
theorem made_eq {i:Ins} {f:Frm} {rm:Opd} {reg:Int} {L:Nat} {bs:Nat→Int} {k:Nat} {x:Ins} {s:Mst} (hx:madeF i f rm reg L bs k=(x,0)) (h:runM f rm reg L bs f.how ⟨[],i.c,k⟩=some s):x={ i with a:=s.l.getD 0 i.a,b:=s.l.getD 1 i.b,c:=s.c,len:=s.at_ }:=by
  unfold madeF at hx
  rw [h] at hx
  injection hx with hx _
  exact hx.symm
theorem made_no {i:Ins} {f:Frm} {rm:Opd} {reg:Int} {L:Nat} {bs:Nat→Int} {k:Nat} {x:Ins} (h:runM f rm reg L bs f.how ⟨[],i.c,k⟩=none):madeF i f rm reg L bs k ≠ (x,0):=by
  unfold madeF
  rw [h]
  intro h
  injection h with _ h
  exact absurd h (by decide)
theorem shape_0 (i:Ins) (f:Frm) (rm:Opd) (reg:Int) (L:Nat) (bs:Nat→Int) (k:Nat) (x:Ins) (hk:k ≤ L) (hx:madeF i f rm reg L bs k=(x,0)) (hn:tlP f.size 0 f.how=none) (O:Int→List Opd) (hO:∀ reg' L' bs' k',k' ≤ L'→runM f rm reg' L' bs' f.how ⟨[],i.c,k'⟩=some ⟨O reg',i.c,k'⟩)
    (h1:∀ s,posL f.how isEE=some s→plainO (selO x s)=rm) (h2:∀ s,posL f.how isG=some s→(selO x s).reg=reg) (h3:∀ s,posL f.how isN=some s→(selO x s).reg=f.c) (h4:posL f.how isG=none→∀ r r',O r=O r'):Shape i f rm reg L bs k x:=by
  have hx:=hx
  unfold madeF at hx
  rw [hO reg L bs k hk] at hx
  injection hx with hx _
  refine ⟨by rw [← hx],by rw [← hx],by rw [← hx],by rw [← hx],h1,h2,h3,by rw [hn];exact hk,by rw [hn];exact fun j hj=>absurd hj (Nat.not_lt_zero _),?_⟩
  rw [hn]
  intro reg' L' bs' k' hr hk' _
  unfold madeF
  have hk':k' ≤ L':=hk'
  rw [hO reg' L' bs' k' hk']
  have e:O reg'=O reg:=by
    rcases hr with rfl | h
    · rfl
    · exact h4 h _ _
  rw [← hx,e]
  rfl
theorem tl_here (size:Int) (i:Nat) (c:UInt8) (l:List UInt8) (n:Nat) (h:needF size c=n) (h0:n ≠ 0) (h1:c ≠ 76) (h2:c ≠ 66):tlP size i (c :: l)=some (i,n):=by
  unfold tlP
  rw [if_neg h1,if_neg h2,h,if_neg h0]
theorem tl_next (size:Int) (i:Nat) (c:UInt8) (l:List UInt8) (h:needF size c=0) (h1:c ≠ 76) (h2:c ≠ 66):tlP size i (c :: l)=tlP size (i+1) l:=by
  rw [tlP,if_neg h1,if_neg h2,if_pos h]
theorem shape_n (i:Ins) (f:Frm) (rm:Opd) (reg:Int) (L:Nat) (bs:Nat→Int) (k:Nat) (x:Ins) (hb:∀ j,0 ≤ bs j∧bs j < 256) (c:UInt8) (t n:Nat) (hnn:n=0 ∨ n=1 ∨ n=2 ∨ n=4) (hk:k+n ≤ L) (hx:madeF i f rm reg L bs k=(x,0)) (ht:tlP f.size 0 f.how=some (t,n)) (O:Int→Int→List Opd) (C:Int→Int)
    (hO:∀ reg' L' bs' k',k'+n ≤ L'→runM f rm reg' L' bs' f.how ⟨[],i.c,k'⟩=some ⟨O reg' (valF n c bs' k'),C (valF n c bs' k'),k'+n⟩) (hv:selT x t=valF n c bs k)
    (h1:∀ s,posL f.how isEE=some s→plainO (selO x s)=rm) (h2:∀ s,posL f.how isG=some s→(selO x s).reg=reg) (h3:∀ s,posL f.how isN=some s→(selO x s).reg=f.c) (h4:posL f.how isG=none→∀ r r' v,O r v=O r' v):Shape i f rm reg L bs k x:=by
  have hx':=made_eq hx (hO reg L bs k hk)
  have eT:tailF x (tlP f.size 0 f.how)=lowF (valF n c bs k) n:=by rw [ht];show lowF (selT x t) n=_;rw [hv]
  refine ⟨by rw [hx'],by rw [hx'],by rw [hx'],by rw [hx'],h1,h2,h3,by rw [eT,low_len];exact hk,?_,?_⟩
  · rw [eT,low_len]
    exact val_low hnn hb
  · rw [eT,low_len]
    intro reg' L' bs' k' hr hk' hbs
    have ev:valF n c bs' k'=valF n c bs k:=val_same (fun j hj=>by rw [hbs j hj,val_low hnn hb j hj])
    unfold madeF
    rw [hO reg' L' bs' k' hk',ev]
    have e:O reg' (valF n c bs k)=O reg (valF n c bs k):=by
      rcases hr with rfl | h
      · rfl
      · exact h4 h _ _ _
    rw [hx',e]
-- by gen/XMade11.py
def isNum (c:UInt8):Bool:=c == 73 || c == 98 || c == 66 || c == 119 || c == 105 || c == 76 || c == 109
theorem num_0 {c:UInt8} (h:isNum c=false) (size:Int):needF size c=0∧c ≠ 76∧c ≠ 66:=by
  unfold isNum at h
  simp only [Bool.or_eq_false_iff,beq_eq_false_iff_ne,ne_eq] at h
  obtain ⟨⟨⟨⟨⟨⟨h1,h2⟩,h3⟩,h4⟩,h5⟩,h6⟩,h7⟩:=h
  refine ⟨?_,h6,h3⟩
  unfold needF
  rw [if_neg h1,if_neg (fun e=>e.elim h2 h3),if_neg h4,if_neg (fun e=>e.elim h5 (fun e=>e.elim h6 h7))]
section
variable {f:Frm} {rm:Opd} {reg:Int} {L:Nat} {bs:Nat→Int} {s:Mst} {l:List UInt8} {o:Option Mst}
theorem s0 (c:UInt8) (h:isNum c=false) (hl:s.at_ ≤ L) (h2:runM f rm reg L bs l ⟨s.l ++ pushF f rm reg 0 c,s.c,s.at_⟩=o):runM f rm reg L bs (c :: l) s=o :=
  bind_step (step_0 f rm reg L bs s c (num_0 h f.size).1 hl (num_0 h f.size).2.1 (num_0 h f.size).2.2) h2
theorem sn {n:Nat} (c:UInt8) (h:needF f.size c=n) (hl:s.at_+n ≤ L) (h2:runM f rm reg L bs l ⟨s.l ++ pushF f rm reg (valF n c bs s.at_) c,if c=76 ∨ c=66 then valF n c bs s.at_ else s.c,s.at_+n⟩=o):runM f rm reg L bs (c :: l) s=o:=bind_step (step_n f rm reg L bs s c n h hl) h2
theorem sx {n:Nat} (c:UInt8) (h:needF f.size c=n) (hl:¬ s.at_+n ≤ L):runM f rm reg L bs (c :: l) s=none:=bind_none (step_x f rm reg L bs s c n h hl)
theorem s1 {n:Nat} (c:UInt8) (h:isNum c=false) (hl:¬ s.at_+n ≤ L) (h2:s.at_ ≤ L→runM f rm reg L bs l ⟨s.l ++ pushF f rm reg 0 c,s.c,s.at_⟩=none):runM f rm reg L bs (c :: l) s=none:=by
  have _:=hl
  by_cases hk:s.at_ ≤ L
  · exact s0 c h hk (h2 hk)
  · exact sx (n:=0) c (num_0 h f.size).1 hk
end
section
variable (i:Ins) (f:Frm) (rm:Opd) (reg:Int) (L:Nat) (bs:Nat→Int) (k:Nat) (x:Ins) (hb:∀ j,0 ≤ bs j∧bs j < 256) (hi:i.a=noneO∧i.b=noneO) (hx:madeF i f rm reg L bs k=(x,0))
include hi hx
theorem how_0 (hk:k ≤ L) (O:Int→List Opd) (hO:∀ reg' L' bs' k',k' ≤ L'→runM f rm reg' L' bs' f.how ⟨[],i.c,k'⟩=some ⟨O reg',i.c,k'⟩) (hn:tlP f.size 0 f.how=none)
    (hE:∀ s,posL f.how isEE=some s→plainO (if s then (O reg).getD 1 noneO else (O reg).getD 0 noneO)=rm) (hG:∀ s,posL f.how isG=some s→(if s then (O reg).getD 1 noneO else (O reg).getD 0 noneO).reg=reg) (hN:∀ s,posL f.how isN=some s→(if s then (O reg).getD 1 noneO else (O reg).getD 0 noneO).reg=f.c) (h4:posL f.how isG=none→∀ r r',O r=O r'):Shape i f rm reg L bs k x:=by
  have ex:=made_eq hx (hO reg L bs k hk)
  have e:∀ s,selO x s=if s then (O reg).getD 1 noneO else (O reg).getD 0 noneO:=fun s=>by rw [ex,← hi.1];cases s <;> simp [selO,hi.1,hi.2]
  exact shape_0 i f rm reg L bs k x hk hx hn O hO (fun s hs=>by rw [e];exact hE s hs) (fun s hs=>by rw [e];exact hG s hs) (fun s hs=>by rw [e];exact hN s hs) h4
include hb
theorem how_n (c:UInt8) (t n:Nat) (hc:needF f.size c=n) (O:Int→Int→List Opd) (C:Int→Int) (hO:∀ reg' L' bs' k',k'+n ≤ L'→runM f rm reg' L' bs' f.how ⟨[],i.c,k'⟩=some ⟨O reg' (valF n c bs' k'),C (valF n c bs' k'),k'+n⟩) (hX:∀ reg' L' bs' k',¬ k'+n ≤ L'→runM f rm reg' L' bs' f.how ⟨[],i.c,k'⟩=none) (ht:tlP f.size 0 f.how=some (t,n))
    (hV:∀ r v,(if t=0 then ((O r v).getD 0 noneO).disp else if t=1 then ((O r v).getD 1 noneO).disp else C v)=v)
    (hE:∀ s,posL f.how isEE=some s→plainO (if s then (O reg (valF n c bs k)).getD 1 noneO else (O reg (valF n c bs k)).getD 0 noneO)=rm) (hG:∀ s,posL f.how isG=some s→(if s then (O reg (valF n c bs k)).getD 1 noneO else (O reg (valF n c bs k)).getD 0 noneO).reg=reg) (hN:∀ s,posL f.how isN=some s→(if s then (O reg (valF n c bs k)).getD 1 noneO else (O reg (valF n c bs k)).getD 0 noneO).reg=f.c) (h4:posL f.how isG=none→∀ r r' v,O r v=O r' v):Shape i f rm reg L bs k x:=by
  have hkn:k+n ≤ L:=by
    by_cases h:k+n ≤ L
    · exact h
    · exact absurd hx (made_no (hX reg L bs k h))
  have ex:=made_eq hx (hO reg L bs k hkn)
  have e:∀ s,selO x s=if s then (O reg (valF n c bs k)).getD 1 noneO else (O reg (valF n c bs k)).getD 0 noneO:=fun s=>by rw [ex,← hi.1];cases s <;> simp [selO,hi.1,hi.2]
  have hv:selT x t=valF n c bs k:=by
    rw [← hV reg (valF n c bs k),ex]
    unfold selT
    rw [hi.1,hi.2]
  exact shape_n i f rm reg L bs k x hb c t n (by rw [← hc];exact need_of _ _) hkn hx ht O C hO hv (fun s hs=>by rw [e];exact hE s hs) (fun s hs=>by rw [e];exact hG s hs) (fun s hs=>by rw [e];exact hN s hs) h4
end
theorem made_shape (i:Ins) (f:Frm) (rm:Opd) (reg:Int) (L:Nat) (bs:Nat→Int) (k:Nat) (x:Ins) (hb:∀ j,0 ≤ bs j∧bs j < 256) (hi:i.a=noneO∧i.b=noneO) (hg:rmGood rm) (hk:k ≤ L) (hw:f.how ∈ hows) (hx:madeF i f rm reg L bs k=(x,0)):Shape i f rm reg L bs k x:=by
  simp only [hows,List.mem_cons,List.not_mem_nil,or_false] at hw
  have n73:needF f.size 73=if f.size=4 then 4 else 1:=rfl
  have n0:(if f.size=4 then 4 else 1) ≠ 0:=by split <;> decide
  rcases hw with hw | hw | hw | hw | hw | hw | hw | hw | hw | hw | hw | hw | hw | hw | hw | hw | hw | hw | hw | hw | hw | hw | hw | hw | hw
  refine how_0 i f rm reg L bs k x hi hx hk (fun r=>[]) (fun _ _ _ _ hk=>by rw [hw];exact rfl) (by rw [hw];rfl) ?_ ?_ ?_ ?_;rotate_left 4
  refine how_0 i f rm reg L bs k x hi hx hk (fun r=>[if f.size=1 then turnO rm 2 else rm,smallO f.size r]) (fun _ _ _ _ hk=>by rw [hw];exact s0 69 rfl hk (s0 71 rfl hk rfl)) (by rw [hw,tl_next _ _ _ _ (num_0 rfl _).1 (by decide) (by decide),tl_next _ _ _ _ (num_0 rfl _).1 (by decide) (by decide)];rfl) ?_ ?_ ?_ ?_;rotate_left 4
  refine how_0 i f rm reg L bs k x hi hx hk (fun r=>[smallO f.size r,if f.size=1 then turnO rm 2 else rm]) (fun _ _ _ _ hk=>by rw [hw];exact s0 71 rfl hk (s0 69 rfl hk rfl)) (by rw [hw,tl_next _ _ _ _ (num_0 rfl _).1 (by decide) (by decide),tl_next _ _ _ _ (num_0 rfl _).1 (by decide) (by decide)];rfl) ?_ ?_ ?_ ?_;rotate_left 4
  refine how_n i f rm reg L bs k x hb hi hx 73 1 _ n73 (fun r v=>[smallO f.size 0,numO v]) (fun v=>i.c) (fun _ _ _ _ hk=>by rw [hw];exact s0 97 rfl (Nat.le_trans (Nat.le_add_right _ _) hk) (sn 73 n73 hk rfl)) (fun _ _ _ _ hk=>by rw [hw];exact s1 97 rfl hk (fun _=>sx 73 n73 hk)) (by rw [hw,tl_next _ _ _ _ (num_0 rfl _).1 (by decide) (by decide),tl_here _ _ _ _ _ n73 n0 (by decide) (by decide)]) (fun _ _=>rfl) ?_ ?_ ?_ ?_;rotate_left 4
  refine how_0 i f rm reg L bs k x hi hx hk (fun r=>[smallO f.size f.c]) (fun _ _ _ _ hk=>by rw [hw];exact s0 114 rfl hk rfl) (by rw [hw,tl_next _ _ _ _ (num_0 rfl _).1 (by decide) (by decide)];rfl) ?_ ?_ ?_ ?_;rotate_left 4
  refine how_n i f rm reg L bs k x hb hi hx 98 0 1 rfl (fun r v=>[numO v]) (fun v=>i.c) (fun _ _ _ _ hk=>by rw [hw];exact sn 98 rfl hk rfl) (fun _ _ _ _ hk=>by rw [hw];exact sx 98 rfl hk) (by rw [hw,tl_here _ _ _ _ 1 rfl (by decide) (by decide) (by decide)]) (fun _ _=>rfl) ?_ ?_ ?_ ?_;rotate_left 4
  refine how_0 i f rm reg L bs k x hi hx hk (fun r=>[smallO f.size 0,smallO f.size f.c]) (fun _ _ _ _ hk=>by rw [hw];exact s0 97 rfl hk (s0 114 rfl hk rfl)) (by rw [hw,tl_next _ _ _ _ (num_0 rfl _).1 (by decide) (by decide),tl_next _ _ _ _ (num_0 rfl _).1 (by decide) (by decide)];rfl) ?_ ?_ ?_ ?_;rotate_left 4
  refine how_n i f rm reg L bs k x hb hi hx 73 1 _ n73 (fun r v=>[smallO f.size f.c,numO v]) (fun v=>i.c) (fun _ _ _ _ hk=>by rw [hw];exact s0 114 rfl (Nat.le_trans (Nat.le_add_right _ _) hk) (sn 73 n73 hk rfl)) (fun _ _ _ _ hk=>by rw [hw];exact s1 114 rfl hk (fun _=>sx 73 n73 hk)) (by rw [hw,tl_next _ _ _ _ (num_0 rfl _).1 (by decide) (by decide),tl_here _ _ _ _ _ n73 n0 (by decide) (by decide)]) (fun _ _=>rfl) ?_ ?_ ?_ ?_;rotate_left 4
  refine how_n i f rm reg L bs k x hb hi hx 73 0 _ n73 (fun r v=>[numO v]) (fun v=>i.c) (fun _ _ _ _ hk=>by rw [hw];exact sn 73 n73 hk rfl) (fun _ _ _ _ hk=>by rw [hw];exact sx 73 n73 hk) (by rw [hw,tl_here _ _ _ _ _ n73 n0 (by decide) (by decide)]) (fun _ _=>rfl) ?_ ?_ ?_ ?_;rotate_left 4
  refine how_n i f rm reg L bs k x hb hi hx 76 2 4 rfl (fun r v=>[smallO f.size r,if f.size=1 then turnO rm 2 else rm]) (fun v=>v) (fun _ _ _ _ hk=>by rw [hw];exact s0 71 rfl (Nat.le_trans (Nat.le_add_right _ _) hk) (s0 69 rfl (Nat.le_trans (Nat.le_add_right _ _) hk) (sn 76 rfl hk rfl))) (fun _ _ _ _ hk=>by rw [hw];exact s1 71 rfl hk (fun _=>s1 69 rfl hk (fun _=>sx 76 rfl hk))) (by rw [hw,tl_next _ _ _ _ (num_0 rfl _).1 (by decide) (by decide),tl_next _ _ _ _ (num_0 rfl _).1 (by decide) (by decide)];rfl) (fun _ _=>rfl) ?_ ?_ ?_ ?_;rotate_left 4
  refine how_n i f rm reg L bs k x hb hi hx 66 2 1 rfl (fun r v=>[smallO f.size r,if f.size=1 then turnO rm 2 else rm]) (fun v=>v) (fun _ _ _ _ hk=>by rw [hw];exact s0 71 rfl (Nat.le_trans (Nat.le_add_right _ _) hk) (s0 69 rfl (Nat.le_trans (Nat.le_add_right _ _) hk) (sn 66 rfl hk rfl))) (fun _ _ _ _ hk=>by rw [hw];exact s1 71 rfl hk (fun _=>s1 69 rfl hk (fun _=>sx 66 rfl hk))) (by rw [hw,tl_next _ _ _ _ (num_0 rfl _).1 (by decide) (by decide),tl_next _ _ _ _ (num_0 rfl _).1 (by decide) (by decide)];rfl) (fun _ _=>rfl) ?_ ?_ ?_ ?_;rotate_left 4
  refine how_n i f rm reg L bs k x hb hi hx 73 1 _ n73 (fun r v=>[if f.size=1 then turnO rm 2 else rm,numO v]) (fun v=>i.c) (fun _ _ _ _ hk=>by rw [hw];exact s0 69 rfl (Nat.le_trans (Nat.le_add_right _ _) hk) (sn 73 n73 hk rfl)) (fun _ _ _ _ hk=>by rw [hw];exact s1 69 rfl hk (fun _=>sx 73 n73 hk)) (by rw [hw,tl_next _ _ _ _ (num_0 rfl _).1 (by decide) (by decide),tl_here _ _ _ _ _ n73 n0 (by decide) (by decide)]) (fun _ _=>rfl) ?_ ?_ ?_ ?_;rotate_left 4
  refine how_n i f rm reg L bs k x hb hi hx 98 1 1 rfl (fun r v=>[if f.size=1 then turnO rm 2 else rm,numO v]) (fun v=>i.c) (fun _ _ _ _ hk=>by rw [hw];exact s0 69 rfl (Nat.le_trans (Nat.le_add_right _ _) hk) (sn 98 rfl hk rfl)) (fun _ _ _ _ hk=>by rw [hw];exact s1 69 rfl hk (fun _=>sx 98 rfl hk)) (by rw [hw,tl_next _ _ _ _ (num_0 rfl _).1 (by decide) (by decide),tl_here _ _ _ _ 1 rfl (by decide) (by decide) (by decide)]) (fun _ _=>rfl) ?_ ?_ ?_ ?_;rotate_left 4
  refine how_0 i f rm reg L bs k x hi hx hk (fun r=>[if f.size=1 then turnO rm 2 else rm]) (fun _ _ _ _ hk=>by rw [hw];exact s0 69 rfl hk rfl) (by rw [hw,tl_next _ _ _ _ (num_0 rfl _).1 (by decide) (by decide)];rfl) ?_ ?_ ?_ ?_;rotate_left 4
  refine how_n i f rm reg L bs k x hb hi hx 109 1 4 rfl (fun r v=>[smallO f.size 0,⟨3,0,-1,-1,1,v⟩]) (fun v=>i.c) (fun _ _ _ _ hk=>by rw [hw];exact s0 97 rfl (Nat.le_trans (Nat.le_add_right _ _) hk) (sn 109 rfl hk rfl)) (fun _ _ _ _ hk=>by rw [hw];exact s1 97 rfl hk (fun _=>sx 109 rfl hk)) (by rw [hw,tl_next _ _ _ _ (num_0 rfl _).1 (by decide) (by decide),tl_here _ _ _ _ 4 rfl (by decide) (by decide) (by decide)]) (fun _ _=>rfl) ?_ ?_ ?_ ?_;rotate_left 4
  refine how_n i f rm reg L bs k x hb hi hx 109 0 4 rfl (fun r v=>[⟨3,0,-1,-1,1,v⟩,smallO f.size 0]) (fun v=>i.c) (fun _ _ _ _ hk=>by rw [hw];exact sn 109 rfl hk (s0 97 rfl hk rfl)) (fun _ _ _ _ hk=>by rw [hw];exact sx 109 rfl hk) (by rw [hw,tl_here _ _ _ _ 4 rfl (by decide) (by decide) (by decide)]) (fun _ _=>rfl) ?_ ?_ ?_ ?_;rotate_left 4
  refine how_0 i f rm reg L bs k x hi hx hk (fun r=>[if f.size=1 then turnO rm 2 else rm,numO 1]) (fun _ _ _ _ hk=>by rw [hw];exact s0 69 rfl hk (s0 49 rfl hk rfl)) (by rw [hw,tl_next _ _ _ _ (num_0 rfl _).1 (by decide) (by decide),tl_next _ _ _ _ (num_0 rfl _).1 (by decide) (by decide)];rfl) ?_ ?_ ?_ ?_;rotate_left 4
  refine how_0 i f rm reg L bs k x hi hx hk (fun r=>[if f.size=1 then turnO rm 2 else rm,regO 2 1]) (fun _ _ _ _ hk=>by rw [hw];exact s0 69 rfl hk (s0 99 rfl hk rfl)) (by rw [hw,tl_next _ _ _ _ (num_0 rfl _).1 (by decide) (by decide),tl_next _ _ _ _ (num_0 rfl _).1 (by decide) (by decide)];rfl) ?_ ?_ ?_ ?_;rotate_left 4
  refine how_n i f rm reg L bs k x hb hi hx 119 0 2 rfl (fun r v=>[numO v]) (fun v=>i.c) (fun _ _ _ _ hk=>by rw [hw];exact sn 119 rfl hk rfl) (fun _ _ _ _ hk=>by rw [hw];exact sx 119 rfl hk) (by rw [hw,tl_here _ _ _ _ 2 rfl (by decide) (by decide) (by decide)]) (fun _ _=>rfl) ?_ ?_ ?_ ?_;rotate_left 4
  refine how_n i f rm reg L bs k x hb hi hx 105 0 4 rfl (fun r v=>[numO v]) (fun v=>i.c) (fun _ _ _ _ hk=>by rw [hw];exact sn 105 rfl hk rfl) (fun _ _ _ _ hk=>by rw [hw];exact sx 105 rfl hk) (by rw [hw,tl_here _ _ _ _ 4 rfl (by decide) (by decide) (by decide)]) (fun _ _=>rfl) ?_ ?_ ?_ ?_;rotate_left 4
  refine how_0 i f rm reg L bs k x hi hx hk (fun r=>[regO 1 r,if f.size=1 then turnO rm 2 else rm]) (fun _ _ _ _ hk=>by rw [hw];exact s0 103 rfl hk (s0 69 rfl hk rfl)) (by rw [hw,tl_next _ _ _ _ (num_0 rfl _).1 (by decide) (by decide),tl_next _ _ _ _ (num_0 rfl _).1 (by decide) (by decide)];rfl) ?_ ?_ ?_ ?_;rotate_left 4
  refine how_0 i f rm reg L bs k x hi hx hk (fun r=>[regO 5 r,turnO rm 5]) (fun _ _ _ _ hk=>by rw [hw];exact s0 88 rfl hk (s0 89 rfl hk rfl)) (by rw [hw,tl_next _ _ _ _ (num_0 rfl _).1 (by decide) (by decide),tl_next _ _ _ _ (num_0 rfl _).1 (by decide) (by decide)];rfl) ?_ ?_ ?_ ?_;rotate_left 4
  refine how_0 i f rm reg L bs k x hi hx hk (fun r=>[turnO rm 5,regO 5 r]) (fun _ _ _ _ hk=>by rw [hw];exact s0 89 rfl hk (s0 88 rfl hk rfl)) (by rw [hw,tl_next _ _ _ _ (num_0 rfl _).1 (by decide) (by decide),tl_next _ _ _ _ (num_0 rfl _).1 (by decide) (by decide)];rfl) ?_ ?_ ?_ ?_;rotate_left 4
  refine how_0 i f rm reg L bs k x hi hx hk (fun r=>[regO 5 r,rm]) (fun _ _ _ _ hk=>by rw [hw];exact s0 88 rfl hk (s0 101 rfl hk rfl)) (by rw [hw,tl_next _ _ _ _ (num_0 rfl _).1 (by decide) (by decide),tl_next _ _ _ _ (num_0 rfl _).1 (by decide) (by decide)];rfl) ?_ ?_ ?_ ?_;rotate_left 4
  refine how_0 i f rm reg L bs k x hi hx hk (fun r=>[regO 1 r,turnO rm 5]) (fun _ _ _ _ hk=>by rw [hw];exact s0 103 rfl hk (s0 89 rfl hk rfl)) (by rw [hw,tl_next _ _ _ _ (num_0 rfl _).1 (by decide) (by decide),tl_next _ _ _ _ (num_0 rfl _).1 (by decide) (by decide)];rfl) ?_ ?_ ?_ ?_;rotate_left 4
  all_goals (rw [hw];first | exact fun h=>absurd h (by decide) | exact fun _ _ _=>rfl | exact fun _ _ _ _=>rfl | (intro s hs;cases s <;> first | exact absurd hs (by decide) | exact plain_ite hg _ | exact plain_self hg | exact plain_turn hg 5 (.inr rfl) | exact small_reg _ _ | rfl))
def fitsC (f:Frm) (rep:Bool) (alt:Int→Option (Frm × Bool)) (h:Int) (c:Cand):Bool :=
  decide (c.tail=tlP f.size 0 f.how) && (match posL f.how isEE with
    | some s=>(match c.rm with
      | some (t,some q,_)=>(t == s) && decide (posL f.how isG=some q) && decide (c.opc=h)
      | some (t,none,n)=>(t == s) && decide (posL f.how isG=none) && decide (0 ≤ n∧n < 8) && decide (alt n=some (f,rep)) && decide (c.opc=h)
      | none=>false)
    | none=>(match c.rm with
      | some _=>false
      | none=>(match posL f.how isN with
        | some s=>decide (c.nam=some s) && decide (c.opc+f.c=h) && decide (0 ≤ f.c∧f.c < 8)
        | none=>decide (c.nam=none) && decide (c.opc=h))))
def goodH (x:Option (Frm × Bool)) (alt:Int→Option (Frm × Bool)) (h:Int):Bool:=match x with
  | none=>true
  | some (f,rep)=>decide (f.how ∈ hows) && (hasF f.how == (posL f.how isEE).isSome) && (candF f.op f.cond f.size rep).any (fitsC f rep alt h)
def chkT (c r:Int) (m:Bool):Bool:=goodH (oneH c r m) (fun n=>oneH c n m) c && (match oneH c r m with
    | none=>true
    | some (f,rep)=>decide (oneH c r false=some (f,rep)) && (hasF f.how || decide (oneH c (-1) false=some (f,rep)))) && (match oneH c (-1) false with
    | none=>true
    | some (f,rep)=>hasF f.how || decide (oneH c r m=some (f,rep)))
theorem chkT_all:((List.range 256).all fun n=>(List.range 9).all fun k=>chkT n ((k:Int) - 1) true && chkT n ((k:Int) - 1) false)=true:=by kernel_rfl
def chkU (h:Int):Bool:=goodH (twoH h) (fun _=>twoH h) h
theorem chkU_all:((List.range 256).all fun n=>chkU (0x0f00+n) && chkU (0xf300+n) && chkU (0x660f00+n) && chkU (0xf20f00+n))=true:=by kernel_rfl
theorem chkT_at (c r:Int) (m:Bool) (c0:0 ≤ c) (c1:c < 256) (r0:-1 ≤ r) (r1:r < 8):chkT c r m=true:=by
  obtain ⟨n,rfl⟩:=Int.eq_ofNat_of_zero_le c0
  obtain ⟨k,hk⟩:∃ k:Nat,r=(k:Int) - 1:=⟨(r+1).toNat,by omega⟩
  subst hk
  have h1:=List.all_eq_true.1 chkT_all n (List.mem_range.2 (by omega))
  have h2:=List.all_eq_true.1 h1 k (List.mem_range.2 (by omega))
  simp only [Bool.and_eq_true] at h2
  cases m
  · exact h2.2
  · exact h2.1
theorem two_in {h:Int} {x:Frm × Bool} (hx:twoH h=some x):∃ n:Nat,n < 256∧(h=0x0f00+n ∨ h=0xf300+n ∨ h=0x660f00+n ∨ h=0xf20f00+n):=by
  unfold twoH at hx
  by_cases c1:0x0f00 ≤ h∧h < 0x1000
  · exact ⟨(h - 0x0f00).toNat,by omega,.inl (by omega)⟩
  rw [if_neg c1] at hx
  by_cases c2:0xf300 ≤ h∧h < 0xf400
  · exact ⟨(h - 0xf300).toNat,by omega,.inr (.inl (by omega))⟩
  rw [if_neg c2] at hx
  by_cases c3:0x660f00 ≤ h∧h < 0x661000
  · exact ⟨(h - 0x660f00).toNat,by omega,.inr (.inr (.inl (by omega)))⟩
  rw [if_neg c3] at hx
  by_cases c4:0xf20f00 ≤ h∧h < 0xf21000
  · exact ⟨(h - 0xf20f00).toNat,by omega,.inr (.inr (.inr (by omega)))⟩
  rw [if_neg c4] at hx
  cases hx
theorem chkU_at {h:Int} {x:Frm × Bool} (hx:twoH h=some x):chkU h=true:=by
  obtain ⟨n,hn,hh⟩:=two_in hx
  have h1:=List.all_eq_true.1 chkU_all n (List.mem_range.2 hn)
  simp only [Bool.and_eq_true] at h1
  rcases hh with rfl | rfl | rfl | rfl
  · exact h1.1.1.1
  · exact h1.1.1.2
  · exact h1.1.2
  · exact h1.2
theorem form_good {h reg:Int} {m3:Bool} {f:Frm} {rep:Bool} (h0:0 ≤ h) (r0:-1 ≤ reg) (r1:reg < 8) (hf:frmH h reg m3=some (f,rep)) :
    f.how ∈ hows∧hasF f.how=(posL f.how isEE).isSome∧(∃ c,c ∈ candF f.op f.cond f.size rep∧fitsC f rep (fun n=>frmH h n m3) h c=true)∧frmH h reg false=some (f,rep)∧(hasF f.how=false→∀ r m,-1 ≤ r→r < 8→frmH h r m=some (f,rep)):=by
  unfold frmH at hf
  have fin:∀ (x:Option (Frm × Bool)) (alt:Int→Option (Frm × Bool)),x=some (f,rep)→goodH x alt h=true→f.how ∈ hows∧hasF f.how=(posL f.how isEE).isSome∧(∃ c,c ∈ candF f.op f.cond f.size rep∧fitsC f rep alt h c=true):=fun x alt hx hg=>by
    rw [hx] at hg
    unfold goodH at hg
    simp only [Bool.and_eq_true] at hg
    exact ⟨of_decide_eq_true hg.1.1,by simpa using hg.1.2,List.any_eq_true.1 hg.2⟩
  by_cases h1:h < 256
  · rw [if_pos h1] at hf
    have hc:=chkT_at h reg m3 h0 h1 r0 r1
    have hc2:=hc
    unfold chkT at hc
    rw [hf] at hc
    simp only [Bool.and_eq_true] at hc
    obtain ⟨⟨g1,g2,g3⟩,g4⟩:=hc
    obtain ⟨f1,f2,f3⟩:=fin _ _ rfl g1
    have e:(fun n=>frmH h n m3)=fun n=>oneH h n m3:=funext fun n=>if_pos h1
    refine ⟨f1,f2,by rw [e];exact f3,by unfold frmH;rw [if_pos h1];exact of_decide_eq_true g2,fun hh r m a b=>?_⟩
    rw [hh,Bool.false_or] at g3
    have e0:=of_decide_eq_true g3
    have hr:=chkT_at h r m h0 h1 a b
    unfold chkT at hr
    rw [e0] at hr
    simp only [Bool.and_eq_true] at hr
    have hr:=hr.2
    rw [hh,Bool.false_or] at hr
    unfold frmH
    rw [if_pos h1]
    exact of_decide_eq_true hr
  · rw [if_neg h1] at hf
    have hc:=chkU_at hf
    unfold chkU at hc
    obtain ⟨f1,f2,f3⟩:=fin _ _ hf hc
    have e:(fun n=>frmH h n m3)=fun _=>twoH h:=funext fun n=>if_neg h1
    exact ⟨f1,f2,by rw [e];exact f3,by unfold frmH;rw [if_neg h1];exact hf,fun _ r m _ _=>by unfold frmH;rw [if_neg h1];exact hf⟩
def rmOk (rm:Opd):Prop:=regOk rm ∨ (memOk rm∧0 ≤ rm.disp∧rm.disp < 4294967296)
theorem rmOk.good {rm:Opd} (h:rmOk rm):rmGood rm:=by
  rcases h with ⟨_,_,h⟩ | ⟨h,_⟩
  · exact .inl ⟨by rw [h],h⟩
  · exact .inr h.1
theorem rmOk.put {rm:Opd} (h:rmOk rm) {reg:Int} (h0:0 ≤ reg) (h1:reg < 8):putOk reg rm:=by
  rcases h with h | ⟨h,_⟩
  · exact ⟨h0,h1,.inl h⟩
  · exact ⟨h0,h1,.inr h⟩
theorem rm_ok {L:Nat} {bs:Nat→Int} {o:Opd} {r:Int} {n:Nat} (hb:∀ i,0 ≤ bs i∧bs i < 256) (h:rmF L bs=some (o,r,n)):rmOk o∧r=bs 0 / 8 % 8∧(o.kind=1 ↔ bs 0 / 64=3)∧1 ≤ n∧n ≤ L:=by
  have hr:r=bs 0 / 8 % 8:=by
    unfold rmF at h
    split at h
    · cases h
    · split at h
      · cases h;rfl
      · split at h
        · split at h
          · cases h
          · split at h
            · cases h
            · cases h;rfl
        · split at h
          · cases h
          · cases h;rfl
  by_cases h3:bs 0 / 64=3
  · unfold rmF at h
    by_cases hL:L=0
    · rw [if_pos hL] at h;cases h
    rw [if_neg hL,if_pos h3] at h
    cases h
    exact ⟨.inl ⟨by show 0 ≤ bs 0 % 8;omega,by show bs 0 % 8 ≤ 7;omega,rfl⟩,rfl,⟨fun _=>h3,fun _=>rfl⟩,Nat.le_refl _,by omega⟩
  · obtain ⟨m1,_,m2,m3,_,m4,_⟩:=read_ok hb h h3
    exact ⟨.inr ⟨m1,m2⟩,hr,⟨fun hk=>absurd (hk.symm.trans m1.1) (by decide),fun hk=>absurd hk h3⟩,m3,m4⟩
theorem put_back {rm:Opd} (h:rmOk rm) {reg:Int} (h0:0 ≤ reg) (h1:reg < 8):0 < (putF reg rm).length∧lst (putF reg rm) 0 / 8 % 8=reg∧(lst (putF reg rm) 0 / 64=3 ↔ rm.kind=1)∧rmF (putF reg rm).length (lst (putF reg rm))=some (rm,reg,(putF reg rm).length):=by
  rcases h with ⟨a,b,h⟩ | ⟨h,d0,d1⟩
  · obtain ⟨r,hr⟩:∃ r,rm.reg=r:=⟨_,rfl⟩
    rw [hr] at a b h
    subst h
    have e:putF reg ⟨1,r,-1,-1,1,0⟩=[192+reg * 8+r]:=rfl
    rw [e]
    have e0:lst [192+reg * 8+r] 0=192+reg * 8+r:=rfl
    refine ⟨by simp,by rw [e0];omega,by rw [e0];exact ⟨fun _=>rfl,fun _=>by omega⟩,?_⟩
    unfold rmF
    rw [if_neg (by simp),e0,if_pos (by omega)]
    rw [show (192+reg * 8+r) % 8=r by omega,show (192+reg * 8+r) / 8 % 8=reg by omega]
    rfl
  · have hp:=put_read reg rm h0 h1 d0 d1 h (lst (putF reg rm)) (fun _ _=>rfl)
    obtain ⟨a1,a2,a3,a4⟩:=add_ok rm d0 d1
    have hb:=h.2.2.1
    have hb':=h.2.2.2.1
    have hkk:=h.1
    refine ⟨?_,?_,?_,hp⟩
    · unfold putF
      rw [if_neg (by rw [hkk];decide)]
      split <;> simp
    · unfold putF
      rw [if_neg (by rw [hkk];decide)]
      split
      · show (addM rm * 64+reg * 8+(if rm.base=-1 then 5 else rm.base)) / 8 % 8=reg
        split <;> omega
      · show (addM rm * 64+reg * 8+4) / 8 % 8=reg
        omega
    · refine ⟨fun hq=>?_,fun hq=>absurd (hq.symm.trans hkk) (by decide)⟩
      exfalso
      unfold putF at hq
      rw [if_neg (by rw [hkk];decide)] at hq
      split at hq
      · have hq:(addM rm * 64+reg * 8+(if rm.base=-1 then 5 else rm.base)) / 64=3:=hq
        split at hq <;> omega
      · have hq:(addM rm * 64+reg * 8+4) / 64=3:=hq
        omega
theorem put_more {rm:Opd} (h:rmOk rm) {reg:Int} (h0:0 ≤ reg) (h1:reg < 8) {L:Nat} {bs:Nat→Int} (hL:(putF reg rm).length ≤ L) (hb:∀ i,i < (putF reg rm).length→bs i=lst (putF reg rm) i):rmF L bs=some (rm,reg,(putF reg rm).length) :=
  ((rm_more (put_back h h0 h1).2.2.2).2.2 L bs hb).1 hL
structure Src (x:Ins) (hN:Int) (f:Frm) (rep:Bool) (reg:Int) (m3:Bool) (rm:Opd):Prop where
  h0:0 ≤ hN
  head:frmH hN reg m3=some (f,rep)
  regs:-1 ≤ reg∧reg < 8
  has:hasF f.how=true→0 ≤ reg∧rmOk rm∧(m3=true ↔ rm.kind=1)
  op:x.op=f.op
  cond:x.cond=f.cond
  size:x.size=f.size
  rep_:x.rep=rep
  rmE:∀ s,posL f.how isEE=some s→plainO (selO x s)=rm
  rgE:∀ s,posL f.how isG=some s→(selO x s).reg=reg
  naE:∀ s,posL f.how isN=some s→(selO x s).reg=f.c
  back:∀ reg',0 ≤ reg'→reg' < 8→(reg'=reg ∨ posL f.how isG=none ∨ hasF f.how=false)→frmH hN reg' m3=some (f,rep)→∀ E,E=spelledF hN ++ ((if hasF f.how then putF reg' rm else []) ++ tailF x (tlP f.size 0 f.how))→oneF E.length (lst E)=({ x with len:=E.length },0)
theorem lst_head (A B:List Int) (i:Nat) (h:i < A.length):lst (A ++ B) i=lst A i:=lst_append_lo A B i h
theorem lst_tail (A B:List Int) (i:Nat):lst (A ++ B) (A.length+i)=lst B i:=lst_append_hi A B i
theorem g_has:∀ how,how ∈ hows→hasF how=false→posL how isG=none:=by decide
theorem run_free (f:Frm) (rm rm':Opd) (L:Nat) (bs:Nat→Int) (l:List UInt8) (s:Mst) (hl:hasF l=false):runM f rm 0 L bs l s=runM f rm' 0 L bs l s:=by
  induction l generalizing s with
  | nil=>rfl
  | cons c l ih =>
    have hl':(isRM c || hasF l)=false:=hl
    simp only [Bool.or_eq_false_iff] at hl'
    show (stepM f rm 0 L bs s c).bind _=(stepM f rm' 0 L bs s c).bind _
    have hst:stepM f rm 0 L bs s c=stepM f rm' 0 L bs s c:=by
      have hc:=hl'.1
      unfold isRM at hc
      simp only [Bool.or_eq_false_iff,beq_eq_false_iff_ne,ne_eq] at hc
      unfold stepM pushF
      rw [if_neg hc.1.1.1.1.1,if_neg hc.1.1.2,if_neg hc.2,if_neg hc.1.1.1.1.1,if_neg hc.1.1.2,if_neg hc.2]
    rw [hst]
    cases stepM f rm' 0 L bs s c with
    | none=>rfl
    | some t=>exact ih t hl'.2
theorem made_free (i:Ins) (f:Frm) (rm rm':Opd) (L:Nat) (bs:Nat→Int) (k:Nat) (hh:hasF f.how=false):madeF i f rm 0 L bs k=madeF i f rm' 0 L bs k:=by
  unfold madeF
  rw [run_free f rm rm' L bs f.how _ hh]
theorem src_of {L:Nat} {bs:Nat→Int} {x:Ins} (hb:∀ i,0 ≤ bs i∧bs i < 256) (h:oneF L bs=(x,0)):∃ hN f rep reg m3 rm,Src x hN f rep reg m3 rm:=by
  obtain ⟨hN,f,rep,h0,hf,hk,hbs,hgo⟩:=one_head hb h
  obtain ⟨k,hkk⟩:∃ k,(spelledF hN).length=k:=⟨_,rfl⟩
  have hbeh:=behF_in L bs 1
  obtain ⟨w1,w2,_,w4,w5⟩:=form_good h0 hbeh.1 hbeh.2 hf
  have k1:hN < 256→k=1:=fun h1=>by rw [← hkk,spelled_1 hN h0 h1];rfl
  have free:∀ r m,¬ hN < 256→frmH hN r m=some (f,rep):=fun r m h1=>by
    unfold frmH at hf ⊢
    rw [if_neg h1] at hf ⊢
    exact hf
  rw [hkk] at hgo hk
  unfold goF at hgo
  cases hh:hasF f.how with
  | false =>
    rw [hh,if_neg (by decide)] at hgo
    have hS:=made_shape ⟨f.op,f.cond,f.size,noneO,noneO,0,rep,0⟩ f (regO 1 0) 0 L bs k x hb ⟨rfl,rfl⟩ (.inl ⟨rfl,rfl⟩) hk w1 (by rw [made_free _ f (regO 1 0) zeroO L bs k hh];exact hgo)
    refine ⟨hN,f,rep,behF L bs 1,behM L bs 1,regO 1 0,h0,hf,hbeh,fun h=>absurd (hh.symm.trans h) (by decide),hS.op,hS.cond,hS.size,hS.rep,hS.rmE,fun s hs=>?_,hS.naE,?_⟩
    · rw [g_has _ w1 hh] at hs;cases hs
    · intro reg' r0 r1 _ hf' E hE
      rw [if_neg (by rw [hh];decide),List.nil_append] at hE
      have eL:E.length=k+(tailF x (tlP f.size 0 f.how)).length:=by rw [hE,List.length_append,hkk]
      have e1:oneF E.length (lst E)=goF E.length (lst E) f rep k:=by
        have hb':=behF_in E.length (lst E) 1
        have:=head_one (L:=E.length) (bs:=lst E) h0 (w5 hh (behF E.length (lst E) 1) (behM E.length (lst E) 1) hb'.1 hb'.2) (by rw [hkk,eL];omega) (fun i hi=>by rw [hE];exact lst_head _ _ i hi)
        rwa [hkk] at this
      rw [e1]
      unfold goF
      rw [hh,if_neg (by decide)]
      rw [made_free _ f zeroO (regO 1 0) _ _ k hh]
      have:=hS.again 0 E.length (lst E) k (.inl rfl) (Nat.le_of_eq eL.symm) (fun j hj=>by rw [hE,← hkk];exact lst_tail _ _ j)
      rw [← eL] at this
      exact this
  | true =>
    rw [hh,if_pos rfl] at hgo
    cases hr:rmF (L - k) (fun i=>bs (k+i)) with
    | none=>rw [hr] at hgo;injection hgo with _ hgo;exact absurd hgo (by decide)
    | some y =>
      obtain ⟨rm,reg,n⟩:=y
      rw [hr] at hgo
      obtain ⟨q1,q2,q3,q4,q5⟩:=rm_ok (fun i=>hb (k+i)) hr
      have hS:=made_shape ⟨f.op,f.cond,f.size,noneO,noneO,0,rep,0⟩ f rm reg L bs (k+n) x hb ⟨rfl,rfl⟩ q1.good (by omega) w1 hgo
      have q2':reg=bs k / 8 % 8:=q2
      have q3':rm.kind=1 ↔ bs k / 64=3:=q3
      have hkL:k < L:=by omega
      have hreg:0 ≤ reg∧reg < 8:=by omega
      obtain ⟨m3,hm3⟩:∃ m3:Bool,m3=(bs k / 64 == 3):=⟨_,rfl⟩
      have hm:m3=true ↔ rm.kind=1:=by rw [hm3,beq_iff_eq];exact q3'.symm
      have hf':frmH hN reg m3=some (f,rep):=by
        by_cases h1:hN < 256
        · rw [k1 h1] at q2' hm3 hkL
          have e1:behF L bs 1=reg:=by unfold behF;rw [if_pos hkL,q2']
          have e2:behM L bs 1=m3:=by unfold behM;rw [decide_eq_true hkL,Bool.true_and,hm3]
          rw [← e1,← e2]
          exact hf
        · exact free _ _ h1
      refine ⟨hN,f,rep,reg,m3,rm,h0,hf',⟨by omega,hreg.2⟩,fun _=>⟨hreg.1,q1,hm⟩,hS.op,hS.cond,hS.size,hS.rep,hS.rmE,hS.rgE,hS.naE,?_⟩
      intro reg' r0 r1 hrr hfr E hE
      rw [if_pos hh] at hE
      obtain ⟨p1,p2,p3,_⟩:=put_back q1 r0 r1
      obtain ⟨P,hP⟩:∃ P,putF reg' rm=P:=⟨_,rfl⟩
      rw [hP] at hE p1 p2 p3
      obtain ⟨T,hT⟩:∃ T,tailF x (tlP f.size 0 f.how)=T:=⟨_,rfl⟩
      rw [hT] at hE
      have eL:E.length=k+P.length+T.length:=by rw [hE,List.length_append,List.length_append,hkk];omega
      have atP:∀ i,i < P.length→lst E (k+i)=lst P i:=fun i hi=>by rw [hE,← hkk,lst_tail];exact lst_head _ _ i hi
      have atT:∀ i,lst E (k+P.length+i)=lst T i:=fun i=>by rw [hE,← hkk,Nat.add_assoc,lst_tail,lst_tail]
      have hfE:frmH hN (behF E.length (lst E) 1) (behM E.length (lst E) 1)=some (f,rep):=by
        by_cases h1:hN < 256
        · have ek:=k1 h1
          have a0:=atP 0 p1
          rw [ek] at a0 eL
          have a0:lst E 1=lst P 0:=a0
          have l1:1 < E.length:=by omega
          have e1:behF E.length (lst E) 1=reg':=by unfold behF;rw [if_pos l1,a0,p2]
          have e2:behM E.length (lst E) 1=m3:=by
            unfold behM
            rw [decide_eq_true l1,Bool.true_and,a0,Bool.eq_iff_iff,beq_iff_eq,p3,hm]
          rw [e1,e2]
          exact hfr
        · exact free _ _ h1
      have e1:oneF E.length (lst E)=goF E.length (lst E) f rep k:=by
        have:=head_one (L:=E.length) (bs:=lst E) h0 hfE (by rw [hkk];omega) (fun i hi=>by rw [hE];exact lst_head _ _ i hi)
        rwa [hkk] at this
      rw [e1]
      unfold goF
      rw [hh,if_pos rfl]
      have e2:=put_more q1 r0 r1 (L:=E.length - k) (bs:=fun i=>lst E (k+i)) (by rw [hP];omega) (fun i hi=>by rw [hP] at hi ⊢;exact atP i hi)
      rw [hP] at e2
      rw [e2]
      have hag:=hS.again reg' E.length (lst E) (k+P.length) (by
        rcases hrr with h | h | h
        · exact .inl h
        · exact .inr h
        · rw [hh] at h;cases h) (by rw [hT];omega) (fun j hj=>by rw [hT];exact atT j)
      rw [hT,← eL] at hag
      exact hag
theorem spell_some {L:Nat} {bs:Nat→Int} {x:Ins} (hb:∀ i,0 ≤ bs i∧bs i < 256) (h:oneF L bs=(x,0)):∃ E,E ∈ spellF x∧isF' x E=true:=by
  obtain ⟨hN,f,rep,reg,m3,rm,hS⟩:=src_of hb h
  obtain ⟨w1,w2,⟨c,hc,hfit⟩,w4,w5⟩:=form_good hS.h0 hS.regs.1 hS.regs.2 hS.head
  refine ⟨fillF x c,?_,?_⟩
  · unfold spellF
    rw [hS.op,hS.cond,hS.size,hS.rep_]
    exact List.mem_map_of_mem hc
  · unfold isF'
    refine decide_eq_true ?_
    unfold fitsC at hfit
    simp only [Bool.and_eq_true,decide_eq_true_eq] at hfit
    obtain ⟨ht,hfit⟩:=hfit
    obtain ⟨E,hE⟩:∃ E,fillF x c=E:=⟨_,rfl⟩
    rw [hE]
    unfold fillF at hE
    rw [ht] at hE
    cases he:posL f.how isEE with
    | some s =>
      rw [he] at hfit w2
      have hh:hasF f.how=true:=w2
      obtain ⟨r0,hok,_⟩:=hS.has hh
      have hrm:=hS.rmE s he
      cases hc1:c.rm with
      | none=>rw [hc1] at hfit;cases hfit
      | some y =>
        obtain ⟨t,q,n⟩:=y
        rw [hc1] at hfit hE
        cases q with
        | some q =>
          simp only [Bool.and_eq_true,decide_eq_true_eq,beq_iff_eq] at hfit
          obtain ⟨⟨rfl,hg⟩,ho⟩:=hfit
          have hreg:=hS.rgE q hg
          have hE:placedF c.opc (selO x q).reg (selO x t) (tailF x (tlP f.size 0 f.how))=E:=hE
          unfold placedF at hE
          rw [hrm,hreg,if_pos (hok.put r0 hS.regs.2),ho] at hE
          exact hS.back reg r0 hS.regs.2 (.inl rfl) hS.head E (by rw [if_pos hh,← hE])
        | none =>
          simp only [Bool.and_eq_true,decide_eq_true_eq,beq_iff_eq] at hfit
          obtain ⟨⟨⟨⟨rfl,hg⟩,hn⟩,ha⟩,ho⟩:=hfit
          have hE:placedF c.opc n (selO x t) (tailF x (tlP f.size 0 f.how))=E:=hE
          unfold placedF at hE
          rw [hrm,if_pos (hok.put hn.1 hn.2),ho] at hE
          exact hS.back n hn.1 hn.2 (.inr (.inl hg)) ha E (by rw [if_pos hh,← hE])
    | none =>
      rw [he] at hfit w2
      have hh:hasF f.how=false:=w2
      cases hc1:c.rm with
      | some y=>rw [hc1] at hfit;cases hfit
      | none =>
        rw [hc1] at hfit hE
        have hfr:=w5 hh 0 m3 (by decide) (by decide)
        cases hn:posL f.how isN with
        | some s =>
          rw [hn] at hfit
          simp only [Bool.and_eq_true,decide_eq_true_eq] at hfit
          obtain ⟨⟨hc2,ho⟩,hcc⟩:=hfit
          rw [hc2] at hE
          have hE:namedF c.opc (selO x s) (tailF x (tlP f.size 0 f.how))=E:=hE
          unfold namedF at hE
          rw [hS.naE s hn,show f.c % 8=f.c by omega,ho] at hE
          exact hS.back 0 (by decide) (by decide) (.inr (.inr hh)) hfr E (by rw [if_neg (by rw [hh];decide),← hE];rfl)
        | none =>
          rw [hn] at hfit
          simp only [Bool.and_eq_true,decide_eq_true_eq] at hfit
          obtain ⟨hc2,ho⟩:=hfit
          rw [hc2,ho] at hE
          exact hS.back 0 (by decide) (by decide) (.inr (.inr hh)) hfr E (by rw [if_neg (by rw [hh];decide),← hE];rfl)
def isByte (l:List Int):Prop:=∀ b,b ∈ l→0 ≤ b∧b < 256
theorem byte_lst {l:List Int} (h:isByte l) (i:Nat):0 ≤ lst l i∧lst l i < 256:=by
  unfold lst
  rw [List.getD_eq_getElem?_getD]
  cases hi:l[i]? with
  | none=>exact ⟨by decide,by decide⟩
  | some b=>exact h b (List.mem_of_getElem? hi)
theorem byte_app {l m:List Int} (h:isByte l) (k:isByte m):isByte (l ++ m):=fun b hb=>(List.mem_append.1 hb).elim (h b) (k b)
theorem byte_nil:isByte []:=fun _ hb=>absurd hb List.not_mem_nil
theorem byte_cons {a:Int} {l:List Int} (h:0 ≤ a∧a < 256) (k:isByte l):isByte (a :: l):=fun b hb=>by
  rcases List.mem_cons.1 hb with rfl | hb
  · exact h
  · exact k b hb
theorem byte_low (v:Int) (n:Nat):isByte (lowF v n):=fun b hb=>by
  unfold lowF at hb
  obtain ⟨k,_,rfl⟩:=List.mem_map.1 hb
  omega
theorem byte_spelled (o:Int):isByte (spelledF o):=by
  unfold spelledF
  refine byte_app ?_ (byte_app ?_ (byte_cons (by omega) byte_nil))
  · split
    · exact byte_nil
    · exact byte_cons (by omega) byte_nil
  · split
    · exact byte_nil
    · exact byte_cons (by omega) byte_nil
theorem byte_add (o:Opd):isByte (addB o):=by
  have h4:isByte (bytes4 o.disp):=byte_cons (by omega) (byte_cons (by omega) (byte_cons (by omega) (byte_cons (by omega) byte_nil)))
  unfold addB
  split
  · exact h4
  · split
    · exact byte_nil
    · split
      · exact byte_cons (by omega) byte_nil
      · exact h4
theorem byte_put {reg:Int} {o:Opd} (h:putOk reg o):isByte (putF reg o):=by
  obtain ⟨r0,r1,h⟩:=h
  have hb:=byte_add o
  have ham:0 ≤ addM o∧addM o ≤ 2:=by unfold addM;split <;> (try split) <;> (try split) <;> omega
  rcases h with ⟨k0,k1,e⟩ | h
  · unfold putF
    rw [if_pos (by rw [e])]
    exact byte_cons (by omega) byte_nil
  · obtain ⟨hk,_,hb0,hb1,hi0,hi1,_,hs,_⟩:=h
    have hl:=log9_ok o.scale hs
    unfold putF
    rw [if_neg (by rw [hk];decide)]
    split
    · exact byte_cons (by split <;> omega) hb
    · exact byte_cons (by omega) (byte_cons (by split <;> split <;> omega) hb)
theorem byte_fill (x:Ins) (c:Cand):isByte (fillF x c):=by
  have ht:isByte (tailF x c.tail):=by
    unfold tailF
    split
    · exact byte_nil
    · exact byte_low _ _
  have hp:∀ o r rm,isByte (placedF o r rm (tailF x c.tail)):=fun o r rm=>by
    unfold placedF
    split
    · rename_i h
      exact byte_app (byte_spelled _) (byte_app (byte_put h) ht)
    · exact byte_nil
  unfold fillF
  split
  · exact hp _ _ _
  · exact hp _ _ _
  · split
    · exact byte_app (byte_spelled _) ht
    · exact byte_app (byte_spelled _) ht
theorem spelled_le (o:Int):(spelledF o).length ≤ 3:=by
  unfold spelledF
  rw [List.length_append,List.length_append]
  split <;> split <;> simp
theorem put_le (reg:Int) (o:Opd):(putF reg o).length ≤ 6:=by
  have h4:(addB o).length ≤ 4:=by
    unfold addB
    split
    · simp [bytes4]
    · split
      · simp
      · split <;> simp [bytes4]
  unfold putF
  split
  · simp
  · split <;> simp <;> omega
def tailOk (c:Cand):Bool:=match c.tail with
  | none=>true
  | some (_,n)=>decide (n ≤ 4)
theorem nF_4 (s:Int):nF s ≤ 4:=by unfold nF;split <;> decide
def okL (L:List Cand):Prop:=L.all tailOk=true∧L.length ≤ 6
theorem okL_ite {p:Prop} [Decidable p] {a b:List Cand} (ha:okL a) (hb:okL b):okL (if p then a else b):=by split <;> assumption
theorem cand_okL (op cond size:Int) (rep:Bool):okL (candF op cond size rep):=by
  have hn:=nF_4 size
  unfold candF movedC ledC singleC reckC shiftC
  repeat' (with_reducible refine okL_ite ?_ ?_)
  all_goals exact ⟨by simp [tailOk,ab,ba,grp,pl,nm,hn],by simp⟩
theorem cand_ok (op cond size:Int) (rep:Bool) (c:Cand) (h:c ∈ candF op cond size rep):tailOk c=true:=List.all_eq_true.1 (cand_okL op cond size rep).1 c h
theorem fill_len (x:Ins) (c:Cand) (h:tailOk c=true):(fillF x c).length ≤ 13:=by
  have ht:(tailF x c.tail).length ≤ 4:=by
    unfold tailOk at h
    unfold tailF
    split
    · simp
    · rename_i s n e
      rw [e] at h
      rw [low_len]
      exact of_decide_eq_true h
  have hp:∀ o r rm,(placedF o r rm (tailF x c.tail)).length ≤ 13:=fun o r rm=>by
    have:=spelled_le o
    have:=put_le r (plainO rm)
    unfold placedF
    split
    · rw [List.length_append,List.length_append];omega
    · simp
  unfold fillF
  split
  · exact hp _ _ _
  · exact hp _ _ _
  · split
    · unfold namedF
      rw [List.length_append]
      have:=spelled_le (c.opc+(selO x ‹_›).reg % 8)
      omega
    · rw [List.length_append]
      have:=spelled_le c.opc
      omega
theorem spell_in {x:Ins} {E:List Int} (h:E ∈ spellF x):isByte E∧E.length ≤ 13:=by
  unfold spellF at h
  obtain ⟨c,hc,rfl⟩:=List.mem_map.1 h
  exact ⟨byte_fill x c,fill_len x c (cand_ok _ _ _ _ c hc)⟩
theorem spell_len (x:Ins):(spellF x).length ≤ 6:=by
  unfold spellF
  rw [List.length_map]
  exact (cand_okL _ _ _ _).2
theorem enc_few (x:Ins) (n:Int):encF { x with len:=n }=encF x:=rfl
theorem find_first (p:List Int→Bool):∀ (L:List (List Int)) (k:Nat) (_:k < L.length),(∀ j,j < k→p (L.getD j [])=false)→p (L.getD k [])=true→L.find? p=some (L.getD k [])
  | [],k,h,_,_=>absurd h (Nat.not_lt_zero _)
  | l :: L,0,_,_,h2=>by
    have h2:p l=true:=h2
    rw [List.find?_cons,h2]
    rfl
  | l :: L,k+1,h,h1,h2=>by
    have e:p l=false:=h1 0 (by omega)
    rw [List.find?_cons,e]
    exact find_first p L k (by simpa using h) (fun j hj=>h1 (j+1) (by omega)) h2
theorem find_none' (p:List Int→Bool) (L:List (List Int)) (h:∀ j,j < L.length→p (L.getD j [])=false):L.find? p=none:=by
  rw [List.find?_eq_none]
  intro E hE
  obtain ⟨j,hj,rfl⟩:=List.mem_iff_getElem.1 hE
  have:=h j hj
  rw [List.getD_eq_getElem?_getD,List.getElem?_eq_getElem hj] at this
  simpa using this
theorem enc_at {x:Ins} {k:Nat} (h:k < (spellF x).length) (h1:∀ j,j < k→isF' x ((spellF x).getD j [])=false) (h2:isF' x ((spellF x).getD k [])=true):encF x=((spellF x).getD k [],0):=by
  unfold encF
  rw [find_first _ _ k h h1 h2]
theorem enc_no {x:Ins} (h:∀ j,j < (spellF x).length→isF' x ((spellF x).getD j [])=false):encF x=([],22):=by
  unfold encF
  rw [find_none' _ _ h]
theorem enc_read {x:Ins} (h:(encF x).2=0):oneF (encF x).1.length (lst (encF x).1)=({ x with len:=(encF x).1.length },0)∧isByte (encF x).1∧(encF x).1.length ≤ 13:=by
  unfold encF at h ⊢
  cases hf:(spellF x).find? (isF' x) with
  | none=>rw [hf] at h;exact absurd h (by decide)
  | some E =>
    have h1:=List.find?_some hf
    have h2:=spell_in (List.mem_of_find?_eq_some hf)
    exact ⟨of_decide_eq_true h1,h2⟩
theorem enc_some {L:Nat} {bs:Nat→Int} {x:Ins} (hb:∀ i,0 ≤ bs i∧bs i < 256) (h:oneF L bs=(x,0)):(encF x).2=0:=by
  obtain ⟨E,hE,hp⟩:=spell_some hb h
  unfold encF
  cases hf:(spellF x).find? (isF' x) with
  | none=>exact absurd hp (by simpa using List.find?_eq_none.1 hf E hE)
  | some E=>rfl
theorem enc_code (x:Ins):(encF x).2=0 ∨ encF x=([],22):=by
  unfold encF
  split
  · exact .inl rfl
  · exact .inr rfl
def dispOk (o:Opd):Prop:=0 ≤ o.disp∧o.disp < 4294967296
theorem val_range {need:Nat} {c:UInt8} {bs:Nat→Int} {k:Nat} (hb:∀ i,0 ≤ bs i∧bs i < 256):0 ≤ valF need c bs k∧valF need c bs k < 4294967296:=by
  have h0:=hb k
  have h1:=hb (k+1)
  have h2:=hb (k+2)
  have h3:=hb (k+3)
  have hx:=sx9_ok (bs k) h0.1 h0.2
  unfold valF four9
  split
  · split <;> omega
  · split
    · omega
    · split <;> omega
theorem turn_ok {o:Opd} (h:dispOk o) (k:Int):dispOk (turnO o k):=by
  unfold turnO
  split
  · exact ⟨Int.le_refl _,by show (0:Int) < _;decide⟩
  · exact h
theorem ok_0 (k r:Int):dispOk (regO k r):=⟨Int.le_refl _,by show (0:Int) < _;decide⟩
theorem ok_s (s r:Int):dispOk (smallO s r):=by unfold smallO;split <;> exact ok_0 _ _
theorem all_ite {p:Prop} [Decidable p] {a b:List Opd} (ha:∀ o ∈ a,dispOk o) (hb:∀ o ∈ b,dispOk o):∀ o ∈ (if p then a else b),dispOk o:=by split <;> assumption
theorem all_1 {o:Opd} (h:dispOk o):∀ q ∈ [o],dispOk q:=fun q hq=>by rw [List.mem_singleton.1 hq];exact h
theorem push_ok (f:Frm) {rm:Opd} (hr:dispOk rm) (reg:Int) {v:Int} (hv:0 ≤ v∧v < 4294967296) (c:UInt8):∀ o ∈ pushF f rm reg v c,dispOk o:=by
  have hn:∀ o ∈ ([]:List Opd),dispOk o:=fun o h=>absurd h List.not_mem_nil
  have ho:dispOk (if f.size=1 then turnO rm 2 else rm):=by
    split
    · exact turn_ok hr 2
    · exact hr
  unfold pushF
  repeat' (first
    | exact hn
    | exact all_1 ho
    | exact all_1 hr
    | exact all_1 (turn_ok hr 5)
    | exact all_1 (ok_s _ _)
    | exact all_1 (ok_0 _ _)
    | exact all_1 ⟨by decide,by decide⟩
    | exact all_1 hv
    | (with_reducible refine all_ite ?_ ?_))
theorem run_ok {f:Frm} {rm:Opd} {reg:Int} {L:Nat} {bs:Nat→Int} (hb:∀ i,0 ≤ bs i∧bs i < 256) (hr:dispOk rm):∀ (l:List UInt8) (s t:Mst),runM f rm reg L bs l s=some t→(∀ o ∈ s.l,dispOk o)→∀ o ∈ t.l,dispOk o
  | [],s,t,h,hs=>by cases h;exact hs
  | c :: l,s,t,h,hs=>by
    have h:(stepM f rm reg L bs s c).bind (runM f rm reg L bs l)=some t:=h
    unfold stepM at h
    split at h
    · cases h
    · refine run_ok hb hr l _ t h (fun o ho=>?_)
      rcases List.mem_append.1 ho with ho | ho
      · exact hs o ho
      · exact push_ok f hr reg (val_range hb) c o ho
theorem getD_ok {l:List Opd} (h:∀ o ∈ l,dispOk o) (k:Nat) {d:Opd} (hd:dispOk d):dispOk (l.getD k d):=by
  rw [List.getD_eq_getElem?_getD]
  cases hi:l[k]? with
  | none=>exact hd
  | some o=>exact h o (List.mem_of_getElem? hi)
theorem made_ok {i:Ins} {f:Frm} {rm:Opd} {reg:Int} {L:Nat} {bs:Nat→Int} {k:Nat} {x:Ins} (hb:∀ i,0 ≤ bs i∧bs i < 256) (hr:dispOk rm) (ha:dispOk i.a) (hi:dispOk i.b) (h:madeF i f rm reg L bs k=(x,0)):dispOk x.a∧dispOk x.b:=by
  unfold madeF at h
  split at h
  · injection h with _ h;exact absurd h (by decide)
  · rename_i s hs
    injection h with h _
    have hl:=run_ok hb hr f.how _ s hs (fun o ho=>absurd ho List.not_mem_nil)
    rw [← h]
    exact ⟨getD_ok hl 0 ha,getD_ok hl 1 hi⟩
theorem none_ok:dispOk noneO:=⟨by decide,by decide⟩
theorem rm_disp {L:Nat} {bs:Nat→Int} {o:Opd} {r:Int} {n:Nat} (hb:∀ i,0 ≤ bs i∧bs i < 256) (h:rmF L bs=some (o,r,n)):dispOk o:=by
  rcases (rm_ok hb h).1 with ⟨_,_,e⟩ | ⟨_,h⟩
  · rw [e];exact ⟨Int.le_refl _,by show (0:Int) < _;decide⟩
  · exact h
theorem go_ok {L:Nat} {bs:Nat→Int} {f:Frm} {rep:Bool} {k:Nat} {x:Ins} (hb:∀ i,0 ≤ bs i∧bs i < 256) (h:goF L bs f rep k=(x,0)):dispOk x.a∧dispOk x.b:=by
  unfold goF at h
  split at h
  · split at h
    · injection h with _ h;exact absurd h (by decide)
    · rename_i o r n hr
      exact made_ok hb (rm_disp (fun i=>hb (k+i)) hr) none_ok none_ok h
  · exact made_ok hb ⟨by decide,by decide⟩ none_ok none_ok h
theorem one_ok {L:Nat} {bs:Nat→Int} {x:Ins} (hb:∀ i,0 ≤ bs i∧bs i < 256) (h:oneF L bs=(x,0)):dispOk x.a∧dispOk x.b:=by
  obtain ⟨hN,f,rep,_,_,_,_,hgo⟩:=one_head hb h
  exact go_ok hb hgo
theorem enc_nop:encF ⟨50,0,0,noneO,noneO,0,false,0⟩=([144],0):=by kernel_rfl
theorem enc_none:encF zeroI=([],22):=by kernel_rfl
end Go.Proofs.YtlnahkkemjgjbaaGreat
