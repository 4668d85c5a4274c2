import Derived.RegionTactic
import Derived.ChangeAlike
import Derived.Test.YtlnahkkemjgjbaaGreatKND
namespace Go.Proofs.YtlnahkkemjgjbaaGreat
section
open Go.ChangeShapes Go.WideShapes Go.ChangeAt Go.RowKit
def secondF (p c:Int):Frm × Bool :=
  if p=0 then
    if 64 ≤ c∧c < 80 then (⟨36,c % 16,4,[71,69],0⟩,true)
    else if 128 ≤ c∧c < 144 then (⟨31,c % 16,0,[105],0⟩,true)
    else if 144 ≤ c∧c < 160 then (⟨35,c % 16,1,[69],0⟩,true)
    else if c=175 then (⟨25,0,4,[71,69],0⟩,true)
    else if c=182 ∨ c=183 then (⟨19,0,1+c % 2,[103,69],0⟩,true)
    else if c=190 ∨ c=191 then (⟨20,0,1+c % 2,[103,69],0⟩,true)
    else (nilF,false)
  else if p=242 then
    if c=16 then (⟨51,0,8,[88,89],0⟩,true)
    else if c=17 then (⟨51,0,8,[89,88],0⟩,true)
    else if c=42 then (⟨59,0,4,[88,101],0⟩,true)
    else if c=44 then (⟨60,0,8,[103,89],0⟩,true)
    else if c=81 then (⟨58,0,8,[88,89],0⟩,true)
    else if c=88 then (⟨52,0,8,[88,89],0⟩,true)
    else if c=89 then (⟨53,0,8,[88,89],0⟩,true)
    else if c=92 then (⟨54,0,8,[88,89],0⟩,true)
    else if c=93 then (⟨55,0,8,[88,89],0⟩,true)
    else if c=94 then (⟨56,0,8,[88,89],0⟩,true)
    else if c=95 then (⟨57,0,8,[88,89],0⟩,true)
    else (⟨0,0,8,[],0⟩,false)
  else if c=46 then (⟨61,0,8,[88,89],0⟩,true)
  else (nilF,false)
def secL (x:Frm × Bool):Value:=.tuple #[.agg #[.int .i64 x.1.op,.int .i64 x.1.cond,.int .i64 x.1.size,.string ⟨x.1.how.toArray⟩,.int .i64 x.1.c],.bool x.2]
end
section
def goF (L:Nat) (bs:Nat→Int) (f:Frm) (rep:Bool) (k:Nat):Ins × Int :=
  if hasF f.how then
    match rmF (L - k) (fun i=>bs (k+i)) with
    | none=>(zeroI,21)
    | some (o,r,n)=>madeF ⟨f.op,f.cond,f.size,noneO,noneO,0,rep,0⟩ f o r L bs (k+n)
  else madeF ⟨f.op,f.cond,f.size,noneO,noneO,0,rep,0⟩ f zeroO 0 L bs k
def twoF (L:Nat) (bs:Nat→Int) (p:Int) (k:Nat):Ins × Int :=
  if L ≤ k then (zeroI,21) else if (secondF p (bs k)).2 then goF L bs (secondF p (bs k)).1 false (k+1) else (zeroI,22)
def oneF (L:Nat) (bs:Nat→Int):Ins × Int :=
  if L=0 then (zeroI,21)
  else if bs 0=243 then
    if L < 2 then (zeroI,21)
    else if bs 1=164 ∨ bs 1=165 ∨ bs 1=170 ∨ bs 1=171 then goF L bs (firstF (bs 1) (-1) false).1 true 2
    else (zeroI,22)
  else if bs 0=15 then twoF L bs 0 1
  else if bs 0=242 ∨ bs 0=102 then
    if L < 2 then (zeroI,21) else if bs 1=15 then twoF L bs (bs 0) 2 else (zeroI,22)
  else if (firstF (bs 0) (behF L bs 1) (behM L bs 1)).2.2 then (zeroI,21)
  else if (firstF (bs 0) (behF L bs 1) (behM L bs 1)).2.1 then goF L bs (firstF (bs 0) (behF L bs 1) (behM L bs 1)).1 false 1
  else (zeroI,22)
inductive Prt where
  | place | memory | register | whole | double | named | first | counter | fixed | number | short | half | once
  deriving DecidableEq
structure LF where
  op:Int
  cond:Int
  size:Int
  a:Option Prt
  b:Option Prt
  c:Option Prt
  rep:Bool
  deriving DecidableEq
def nilL:LF:=⟨0,0,0,none,none,none,false⟩
def wdL (c:Int):Int:=if c % 2=0 then 1 else 4
def bareL (c:Int):LF :=
  if c=144 then ⟨50,0,0,none,none,none,false⟩
  else if c=152 then ⟨37,0,0,none,none,none,false⟩
  else if c=153 then ⟨38,0,0,none,none,none,false⟩
  else if c=164 ∨ c=165 then ⟨46,0,wdL c,none,none,none,false⟩
  else if c=170 ∨ c=171 then ⟨47,0,wdL c,none,none,none,false⟩
  else if c=172 ∨ c=173 then ⟨48,0,wdL c,none,none,none,false⟩
  else if c=195 then ⟨34,0,0,none,none,none,false⟩
  else if c=201 then ⟨49,0,0,none,none,none,false⟩
  else if c=204 then ⟨40,0,0,none,none,none,false⟩
  else if c=244 then ⟨39,0,0,none,none,none,false⟩
  else if c=245 then ⟨43,0,0,none,none,none,false⟩
  else if c=248 then ⟨41,0,0,none,none,none,false⟩
  else if c=249 then ⟨42,0,0,none,none,none,false⟩
  else if c=252 then ⟨44,0,0,none,none,none,false⟩
  else if c=253 then ⟨45,0,0,none,none,none,false⟩
  else nilL
def singleL (c:Int):LF :=
  if c=104 then ⟨23,0,4,some .number,none,none,false⟩
  else if c=105 then ⟨25,1,4,some .register,some .place,some .number,false⟩
  else if c=106 then ⟨23,0,4,some .short,none,none,false⟩
  else if c=107 then ⟨25,1,4,some .register,some .place,some .short,false⟩
  else if c=132 ∨ c=133 then ⟨9,0,wdL c,some .place,some .register,none,false⟩
  else if c=134 ∨ c=135 then ⟨22,0,wdL c,some .place,some .register,none,false⟩
  else if c=136 ∨ c=137 then ⟨18,0,wdL c,some .place,some .register,none,false⟩
  else if c=138 ∨ c=139 then ⟨18,0,wdL c,some .register,some .place,none,false⟩
  else if c=141 then ⟨21,0,4,some .register,some .memory,none,false⟩
  else if 145 ≤ c∧c ≤ 151 then ⟨22,0,4,some .first,some .named,none,false⟩
  else if c=160 ∨ c=161 then ⟨18,0,wdL c,some .first,some .fixed,none,false⟩
  else if c=162 ∨ c=163 then ⟨18,0,wdL c,some .fixed,some .first,none,false⟩
  else if c=168 ∨ c=169 then ⟨9,0,wdL c,some .first,some .number,none,false⟩
  else if c=194 then ⟨34,0,0,some .half,none,none,false⟩
  else if c=232 then ⟨33,0,0,some .number,none,none,false⟩
  else if c=233 then ⟨32,0,0,some .number,none,none,false⟩
  else if c=235 then ⟨32,0,0,some .short,none,none,false⟩
  else bareL c
def reckL (c:Int):LF :=
  if c % 8=0 ∨ c % 8=1 then ⟨1+c / 8,0,wdL c,some .place,some .register,none,false⟩
  else if c % 8=2 ∨ c % 8=3 then ⟨1+c / 8,0,wdL c,some .register,some .place,none,false⟩
  else if c % 8=4 ∨ c % 8=5 then ⟨1+c / 8,0,wdL c,some .first,some .number,none,false⟩
  else nilL
def octL (c:Int):LF :=
  if c < 64 then reckL c
  else if c < 72 then ⟨16,0,4,some .named,none,none,false⟩
  else if c < 80 then ⟨17,0,4,some .named,none,none,false⟩
  else if c < 88 then ⟨23,0,4,some .named,none,none,false⟩
  else if c < 96 then ⟨24,0,4,some .named,none,none,false⟩
  else if 112 ≤ c∧c < 128 then ⟨31,c % 16,0,some .short,none,none,false⟩
  else if 176 ≤ c∧c < 184 then ⟨18,0,1,some .named,some .number,none,false⟩
  else if 184 ≤ c∧c < 192 then ⟨18,0,4,some .named,some .number,none,false⟩
  else singleL c
def choL (c r:Int):Int :=
  if c=128 ∨ c=129 ∨ c=131 then 1+r
  else if c=143 then (if r=0 then 24 else 0)
  else if c=193 ∨ c=209 ∨ c=211 then (if r=0 then 26 else if r=1 then 27 else if r=4 then 28 else if r=5 then 29 else if r=7 then 30 else 0)
  else if c=198 ∨ c=199 then (if r=0 then 18 else 0)
  else if c=246 then (if r=0 then 9 else if r=2 then 10 else if r=3 then 11 else 0)
  else if c=247 then (if r=0 then 9 else if r=2 then 10 else if r=3 then 11 else if r=4 then 12 else if r=5 then 13 else if r=6 then 14 else if r=7 then 15 else 0)
  else if c=254 then (if r=0 then 16 else if r=1 then 17 else 0)
  else if c=255 then (if r=0 then 16 else if r=1 then 17 else if r=2 then 33 else if r=4 then 32 else if r=6 then 23 else 0)
  else 0
def grpB (c o:Int):Option Prt :=
  if c=128 ∨ c=129 ∨ c=198 ∨ c=199 then some .number
  else if c=131 ∨ c=193 then some .short
  else if c=209 then some .once
  else if c=211 then some .counter
  else if (c=246 ∨ c=247)∧o=9 then some .number
  else none
def grpL (c r:Int):LF:=⟨choL c r,0,wdL c,some .place,grpB c (choL c r),none,false⟩
def isGrp (c:Int):Bool:=c == 128 || c == 129 || c == 131 || c == 143 || c == 193 || c == 198 || c == 199 || c == 209 || c == 211 || c == 246 || c == 247 || c == 254 || c == 255
def after0FL (c:Int):LF :=
  if c / 16=4 then ⟨36,c % 16,4,some .register,some .place,none,false⟩
  else if c / 16=8 then ⟨31,c % 16,0,some .number,none,none,false⟩
  else if c / 16=9 then ⟨35,c % 16,1,some .place,none,none,false⟩
  else if c=175 then ⟨25,0,4,some .register,some .place,none,false⟩
  else if c=182 ∨ c=183 then ⟨19,0,1+c % 2,some .whole,some .place,none,false⟩
  else if c=190 ∨ c=191 then ⟨20,0,1+c % 2,some .whole,some .place,none,false⟩
  else nilL
def after66L (c:Int):LF:=if c=46 then ⟨61,0,8,some .register,some .place,none,false⟩ else nilL
def intoF (c:Int):Int:=if c=16 then 51 else if c=81 then 58 else if c=88 then 52 else if c=89 then 53 else if c=92 then 54 else if c=93 then 55 else if c=94 then 56 else if c=95 then 57 else 0
def afterF2L (c:Int):LF :=
  if c=17 then ⟨51,0,8,some .place,some .register,none,false⟩
  else if c=42 then ⟨59,0,4,some .double,some .place,none,false⟩
  else if c=44 then ⟨60,0,8,some .whole,some .place,none,false⟩
  else ⟨intoF c,0,8,some .register,some .place,none,false⟩
def afterF3L (c:Int):LF:=if c=164 ∨ c=165 ∨ c=170 ∨ c=171 then { bareL c with rep:=true } else nilL
structure RS where
  k:Nat
  opc:Int
  err:Int
  told:Bool
  rm:Opd
  reg:Int
def failS (s:RS) (e:Int):RS:=if s.err=0 then { s with err:=e } else s
def leB (bs:Nat→Int) (k:Nat):Nat→Int
  | 0=>0
  | n+1=>leB bs k n+bs (k+n) * 256 ^ n
def numS (L:Nat) (bs:Nat→Int) (n:Nat) (s:RS):Int × RS:=if L < s.k+n then (0,failS s 21) else (leB bs s.k n,{ s with k:=s.k+n })
def escS (L:Nat) (bs:Nat→Int) (s:RS):Int × RS:=numS L bs 1 (if (numS L bs 1 s).1=15 then (numS L bs 1 s).2 else failS (numS L bs 1 s).2 22)
def memS (L:Nat) (bs:Nat→Int) (s:RS):Int × RS:=if L ≤ s.k then (0,failS s 21) else (bs s.k / 8 % 8,s)
def rdS (L:Nat) (bs:Nat→Int) (s:RS):RS :=
  if s.told then s
  else match rmF (L - s.k) (fun i=>bs (s.k+i)) with
    | none=>{ failS s 21 with told:=true,rm:=zeroO,reg:=0 }
    | some (o,r,n)=>{ s with told:=true,rm:=o,reg:=r,k:=s.k+n }
def kindF (size:Int):Int:=if size=1 then 2 else if size=8 then 5 else 1
def aloneO (kind reg disp:Int):Opd:=⟨kind,reg,-1,-1,1,disp⟩
def placeO (o:Opd) (size:Int):Opd:=if o.kind=1 then { o with kind:=kindF size } else o
def partS (L:Nat) (bs:Nat→Int) (p:Prt) (size:Int) (s:RS):Opd × RS :=
  match p with
  | .place=>(placeO (rdS L bs s).rm size,rdS L bs s)
  | .memory=>(placeO (rdS L bs s).rm size,if (placeO (rdS L bs s).rm size).kind=3 then rdS L bs s else failS (rdS L bs s) 22)
  | .register=>(aloneO (kindF size) (rdS L bs s).reg 0,rdS L bs s)
  | .whole=>(aloneO 1 (rdS L bs s).reg 0,rdS L bs s)
  | .double=>(aloneO 5 (rdS L bs s).reg 0,rdS L bs s)
  | .named=>(aloneO (kindF size) (s.opc % 8) 0,s)
  | .first=>(aloneO (kindF size) 0 0,s)
  | .counter=>(aloneO 2 1 0,s)
  | .fixed=>(aloneO 3 0 (numS L bs 4 s).1,(numS L bs 4 s).2)
  | .number=>(aloneO 4 0 (numS L bs (if size=1 then 1 else 4) s).1,(numS L bs (if size=1 then 1 else 4) s).2)
  | .short=>(aloneO 4 0 (sx9 (numS L bs 1 s).1),(numS L bs 1 s).2)
  | .half=>(aloneO 4 0 (numS L bs 2 s).1,(numS L bs 2 s).2)
  | .once=>(aloneO 4 0 1,s)
def operS (L:Nat) (bs:Nat→Int) (p:Option Prt) (size:Int) (s:RS):Opd × RS :=
  match p with
  | none=>(noneO,s)
  | some p=>partS L bs p size s
def formS (L:Nat) (bs:Nat→Int) (s:RS):LF × RS :=
  let x:=numS L bs 1 s
  let s:={ x.2 with opc:=x.1 }
  if x.1=15 then (after0FL (numS L bs 1 s).1,(numS L bs 1 s).2)
  else if x.1=102 then (after66L (escS L bs s).1,(escS L bs s).2)
  else if x.1=242 then (afterF2L (escS L bs s).1,(escS L bs s).2)
  else if x.1=243 then (afterF3L (numS L bs 1 s).1,(numS L bs 1 s).2)
  else if isGrp x.1 then (grpL x.1 (memS L bs s).1,(memS L bs s).2)
  else (octL x.1,s)
def finL (L:Nat) (bs:Nat→Int) (f:LF) (s:RS):Ins × Int :=
  let x:=operS L bs f.a f.size s
  let y:=operS L bs f.b f.size x.2
  let z:=operS L bs f.c f.size y.2
  if z.2.err=0 then (⟨f.op,f.cond,f.size,x.1,y.1,z.1.disp,f.rep,z.2.k⟩,0) else (zeroI,z.2.err)
def startS:RS:=⟨0,0,0,false,zeroO,0⟩
def landF (L:Nat) (bs:Nat→Int):Ins × Int :=
  finL L bs (formS L bs startS).1 (if (formS L bs startS).1.op=0 then failS (formS L bs startS).2 22 else (formS L bs startS).2)
end
section
def isRMp:Prt→Bool
  | .place | .register | .whole | .double=>true
  | _=>false
def okLet (size:Int):Prt→UInt8→Bool
  | .place,x=>(x == 69 && size != 8) || (x == 101 && size != 1 && size != 8) || (x == 89 && size == 8)
  | .register,x=>(x == 71 && size != 8) || (x == 88 && size == 8)
  | .whole,x=>x == 103
  | .double,x=>x == 88
  | .named,x=>x == 114 && size != 8
  | .first,x=>x == 97 && size != 8
  | .counter,x=>x == 99
  | .fixed,x=>x == 109
  | .number,x=>(x == 73 && (size == 1 || size == 4)) || (x == 105 && size != 1)
  | .short,x=>x == 98
  | .half,x=>x == 119
  | .once,x=>x == 49
  | .memory,_=>false
def okC (size:Int):Prt→UInt8→Bool
  | .number,x=>x == 76 && size != 1
  | .short,x=>x == 66
  | _,_=>false
def matchF (f:LF) (g:Frm) (opc:Int):Bool :=
  f.op == g.op && f.cond == g.cond && f.size == g.size && f.op != 0 && ((f.a != some .named && f.b != some .named) || opc % 8 == g.c) &&
  match f.a,f.b,f.c,g.how with
  | none,none,none,[]=>true
  | some a,none,none,[x]=>okLet f.size a x
  | some a,some b,none,[x,y]=>okLet f.size a x && okLet f.size b y && (isRMp a || !isRMp b)
  | some a,some b,some c,[x,y,z]=>okLet f.size a x && okLet f.size b y && okC f.size c z && (isRMp a || !isRMp b)
  | _,_,_,_=>false
theorem leB1 (bs:Nat→Int) (k:Nat):leB bs k 1=bs k:=by simp [leB]
theorem leB2 (bs:Nat→Int) (k:Nat):leB bs k 2=bs k+bs (k+1) * 256:=by simp [leB]
theorem leB4 (bs:Nat→Int) (k:Nat):leB bs k 4=four9 (bs k) (bs (k+1)) (bs (k+2)) (bs (k+3)):=by simp [leB,four9]
theorem num_yes {L:Nat} {bs:Nat→Int} {n:Nat} {s:RS} (h:s.k+n ≤ L):numS L bs n s=(leB bs s.k n,{ s with k:=s.k+n }):=by unfold numS;rw [if_neg (by omega)]
theorem num_no {L:Nat} {bs:Nat→Int} {n:Nat} {s:RS} (h:L < s.k+n):numS L bs n s=(0,failS s 21):=by unfold numS;rw [if_pos h]
theorem fail_keeps {s:RS} (h:s.err ≠ 0) (e:Int):failS s e=s:=by unfold failS;rw [if_neg h]
theorem fail_sets {s:RS} (h:s.err=0) (e:Int):(failS s e).err=e:=by unfold failS;rw [if_pos h]
theorem num_err {L:Nat} {bs:Nat→Int} {n:Nat} {s:RS} (h:s.err ≠ 0):(numS L bs n s).2.err=s.err:=by
  unfold numS
  split
  · rw [fail_keeps h]
  · rfl
theorem rd_err {L:Nat} {bs:Nat→Int} {s:RS} (h:s.err ≠ 0):(rdS L bs s).err=s.err:=by
  unfold rdS
  rw [fail_keeps h]
  split
  · rfl
  · split <;> rfl
theorem part_err {L:Nat} {bs:Nat→Int} (p:Prt) (size:Int) {s:RS} (h:s.err ≠ 0):(partS L bs p size s).2.err=s.err:=by
  cases p
  case memory =>
    show (if _ then rdS L bs s else failS (rdS L bs s) 22).err=_
    split
    · exact rd_err h
    · rw [fail_keeps (by rw [rd_err h];exact h)];exact rd_err h
  all_goals first | exact rd_err h | exact num_err h | rfl
theorem oper_err {L:Nat} {bs:Nat→Int} (p:Option Prt) (size:Int) {s:RS} (h:s.err ≠ 0):(operS L bs p size s).2.err=s.err:=by
  cases p with
  | none=>rfl
  | some p=>exact part_err p size h
theorem fin_err {L:Nat} {bs:Nat→Int} (f:LF) {s:RS} (h:s.err ≠ 0):finL L bs f s=(zeroI,s.err):=by
  have h1:=oper_err (L:=L) (bs:=bs) f.a f.size h
  have h2:=oper_err (L:=L) (bs:=bs) f.b f.size (s:=(operS L bs f.a f.size s).2) (by rw [h1];exact h)
  have h3:=oper_err (L:=L) (bs:=bs) f.c f.size (s:=(operS L bs f.b f.size (operS L bs f.a f.size s).2).2) (by rw [h2,h1];exact h)
  show (if (operS L bs f.c f.size (operS L bs f.b f.size (operS L bs f.a f.size s).2).2).2.err=0 then _ else (zeroI,_))=_
  rw [h3,h2,h1,if_neg h]
theorem rm_kind {L:Nat} {bs:Nat→Int} {o:Opd} {r:Int} {n:Nat} (h:rmF L bs=some (o,r,n)) (hk:o.kind=1):o=regO 1 o.reg:=by
  unfold rmF at h
  split at h
  · cases h
  · split at h
    · injection h with h
      injection h with h _
      subst h
      rfl
    · split at h
      · split at h
        · cases h
        · split at h
          · cases h
          · injection h with h
            injection h with h _
            subst h
            cases hk
      · split at h
        · cases h
        · injection h with h
          injection h with h _
          subst h
          cases hk
theorem rm_three {L:Nat} {bs:Nat→Int} {o:Opd} {r:Int} {n:Nat} (h:rmF L bs=some (o,r,n)):n ≤ L∧(o.kind=if bs 0 / 64=3 then 1 else 3):=by
  unfold rmF at h
  split at h
  · cases h
  · rename_i h0
    split at h
    · rename_i h3
      injection h with h
      injection h with h h'
      injection h' with h1 h2
      subst h h2
      exact ⟨by omega,by rw [if_pos h3]⟩
    · rename_i h3
      split at h
      · split at h
        · cases h
        · split at h
          · cases h
          · injection h with h
            injection h with h h'
            injection h' with h1 h2
            subst h h2
            exact ⟨by omega,by rw [if_neg h3]⟩
      · split at h
        · cases h
        · injection h with h
          injection h with h h'
          injection h' with h1 h2
          subst h h2
          exact ⟨by omega,by rw [if_neg h3]⟩
theorem place_turn {o:Opd} (h:o.kind=1→o=regO 1 o.reg) (size:Int):placeO o size=turnO o (kindF size):=by
  unfold placeO turnO
  split
  · rename_i hk
    rw [h hk]
    rfl
  · rfl
theorem place_same {o:Opd} (h:o.kind=1→o=regO 1 o.reg) {size:Int} (h1:size ≠ 1) (h8:size ≠ 8):placeO o size=o:=by
  unfold placeO kindF
  rw [if_neg h1,if_neg h8]
  split
  · rename_i hk
    cases o
    cases hk
    rfl
  · rfl
theorem small_kind (size r:Int) (h8:size ≠ 8):smallO size r=aloneO (kindF size) r 0:=by
  unfold smallO kindF
  by_cases h:size=1
  · rw [if_pos h,if_pos h];rfl
  · rw [if_neg h,if_neg h,if_neg h8];rfl
def StepTo (L:Nat) (bs:Nat→Int) (g:Frm) (rm:Opd) (reg:Int) (x:UInt8) (s:RS) (l:List Opd) (C:Int) (o:Opd) (t:RS):Prop :=
  (stepM g rm reg L bs ⟨l,C,s.k⟩ x=none∧t.err=21) ∨ (stepM g rm reg L bs ⟨l,C,s.k⟩ x=some ⟨l ++ [o],C,t.k⟩∧t.err=0∧t.told=s.told∧t.rm=s.rm∧t.reg=s.reg∧t.opc=s.opc∧t.k ≤ L)
theorem step_same {L:Nat} {bs:Nat→Int} {g:Frm} {rm:Opd} {reg:Int} {x:UInt8} {s:RS} (l:List Opd) (C:Int) {o:Opd} (he:s.err=0) (hk:s.k ≤ L) (h0:needF g.size x=0) (h1:∀ v,pushF g rm reg v x=[o]) (h2:¬ (x=76 ∨ x=66)):StepTo L bs g rm reg x s l C o s:=by
  refine .inr ⟨?_,he,rfl,rfl,rfl,rfl,hk⟩
  unfold stepM
  rw [h0,if_neg (by show ¬ L < s.k+0;omega),h1,if_neg h2]
  rfl
theorem step_num {L:Nat} {bs:Nat→Int} {g:Frm} {rm:Opd} {reg:Int} {x:UInt8} {s:RS} (l:List Opd) (C:Int) {n:Nat} {f:Int→Opd} (he:s.err=0) (h0:needF g.size x=n) (h1:pushF g rm reg (valF n x bs s.k) x=[f (leB bs s.k n)]) (h2:¬ (x=76 ∨ x=66)):StepTo L bs g rm reg x s l C (f (numS L bs n s).1) (numS L bs n s).2:=by
  by_cases h:L < s.k+n
  · refine .inl ⟨?_,?_⟩
    · unfold stepM
      rw [h0,if_pos (by show L < s.k+n;exact h)]
    · rw [num_no h,fail_sets he]
  · rw [num_yes (by omega)]
    refine .inr ⟨?_,he,rfl,rfl,rfl,rfl,by show s.k+n ≤ L;omega⟩
    unfold stepM
    rw [h0,if_neg (by show ¬ L < s.k+n;exact h),if_neg h2]
    show some (Mst.mk (l ++ pushF g rm reg (valF n x bs s.k) x) C (s.k+n))=_
    rw [h1]
theorem part_step {L:Nat} {bs:Nat→Int} {g:Frm} {p:Prt} {x:UInt8} (h:okLet g.size p x=true) {s:RS} (he:s.err=0) (hk:s.k ≤ L) {rm:Opd} {reg:Int} (hr:isRMp p=true→s.told=true∧s.rm=rm∧s.reg=reg) (hrm:rm.kind=1→rm=regO 1 rm.reg) (hn:p=.named→s.opc % 8=g.c) (l:List Opd) (C:Int) :
    StepTo L bs g rm reg x s l C (partS L bs p g.size s).1 (partS L bs p g.size s).2:=by
  have hrd:s.told=true→rdS L bs s=s:=fun ht=>by unfold rdS;rw [if_pos ht]
  cases p
  case place =>
    obtain ⟨ht,rfl,rfl⟩:=hr rfl
    show StepTo L bs g s.rm s.reg x s l C (placeO (rdS L bs s).rm g.size) (rdS L bs s)
    rw [hrd ht]
    simp only [okLet,Bool.or_eq_true,Bool.and_eq_true,beq_iff_eq,bne_iff_ne] at h
    rcases h with (⟨rfl,h8⟩ | ⟨⟨rfl,h1⟩,h8⟩) | ⟨rfl,h8⟩
    · refine step_same l C he hk (by rfl) (fun v=>?_) (by decide)
      show [if g.size=1 then turnO s.rm 2 else s.rm]=_
      by_cases h1:g.size=1
      · rw [if_pos h1,place_turn hrm,h1];rfl
      · rw [if_neg h1,place_same hrm h1 h8]
    · refine step_same l C he hk (by rfl) (fun v=>?_) (by decide)
      show [s.rm]=_
      rw [place_same hrm h1 h8]
    · refine step_same l C he hk (by rfl) (fun v=>?_) (by decide)
      show [turnO s.rm 5]=_
      rw [place_turn hrm,h8];rfl
  case memory=>cases h
  case register =>
    obtain ⟨ht,rfl,rfl⟩:=hr rfl
    show StepTo L bs g s.rm s.reg x s l C (aloneO (kindF g.size) (rdS L bs s).reg 0) (rdS L bs s)
    rw [hrd ht]
    simp only [okLet,Bool.or_eq_true,Bool.and_eq_true,beq_iff_eq,bne_iff_ne] at h
    rcases h with ⟨rfl,h8⟩ | ⟨rfl,h8⟩
    · refine step_same l C he hk (by rfl) (fun v=>?_) (by decide)
      show [smallO g.size s.reg]=_
      rw [small_kind _ _ h8]
    · refine step_same l C he hk (by rfl) (fun v=>?_) (by decide)
      show [regO 5 s.reg]=_
      rw [h8];rfl
  case whole =>
    obtain ⟨ht,rfl,rfl⟩:=hr rfl
    show StepTo L bs g s.rm s.reg x s l C (aloneO 1 (rdS L bs s).reg 0) (rdS L bs s)
    rw [hrd ht]
    simp only [okLet,beq_iff_eq] at h
    subst h
    exact step_same l C he hk (by rfl) (fun v=>rfl) (by decide)
  case double =>
    obtain ⟨ht,rfl,rfl⟩:=hr rfl
    show StepTo L bs g s.rm s.reg x s l C (aloneO 5 (rdS L bs s).reg 0) (rdS L bs s)
    rw [hrd ht]
    simp only [okLet,beq_iff_eq] at h
    subst h
    exact step_same l C he hk (by rfl) (fun v=>rfl) (by decide)
  case named =>
    simp only [okLet,Bool.and_eq_true,beq_iff_eq,bne_iff_ne] at h
    obtain ⟨rfl,h8⟩:=h
    refine step_same l C he hk (by rfl) (fun v=>?_) (by decide)
    show [smallO g.size g.c]=[aloneO (kindF g.size) (s.opc % 8) 0]
    rw [small_kind _ _ h8,hn rfl]
  case first =>
    simp only [okLet,Bool.and_eq_true,beq_iff_eq,bne_iff_ne] at h
    obtain ⟨rfl,h8⟩:=h
    refine step_same l C he hk (by rfl) (fun v=>?_) (by decide)
    show [smallO g.size 0]=[aloneO (kindF g.size) 0 0]
    rw [small_kind _ _ h8]
  case counter =>
    simp only [okLet,beq_iff_eq] at h
    subst h
    exact step_same l C he hk (by rfl) (fun v=>rfl) (by decide)
  case once =>
    simp only [okLet,beq_iff_eq] at h
    subst h
    exact step_same l C he hk (by rfl) (fun v=>rfl) (by decide)
  case fixed =>
    simp only [okLet,beq_iff_eq] at h
    subst h
    exact step_num (f:=fun v=>aloneO 3 0 v) l C he (by rfl) (by rw [leB4];rfl) (by decide)
  case short =>
    simp only [okLet,beq_iff_eq] at h
    subst h
    exact step_num (f:=fun v=>aloneO 4 0 (sx9 v)) l C he (by rfl) (by rw [leB1];rfl) (by decide)
  case half =>
    simp only [okLet,beq_iff_eq] at h
    subst h
    exact step_num (f:=fun v=>aloneO 4 0 v) l C he (by rfl) (by rw [leB2];rfl) (by decide)
  case number =>
    simp only [okLet,Bool.or_eq_true,Bool.and_eq_true,beq_iff_eq,bne_iff_ne] at h
    show StepTo L bs g rm reg x s l C (aloneO 4 0 (numS L bs (if g.size=1 then 1 else 4) s).1) (numS L bs (if g.size=1 then 1 else 4) s).2
    rcases h with ⟨rfl,h1 | h4⟩ | ⟨rfl,h1⟩
    · rw [if_pos h1]
      exact step_num (f:=fun v=>aloneO 4 0 v) l C he (by unfold needF;rw [if_pos rfl,if_neg (by omega)]) (by rw [leB1];rfl) (by decide)
    · rw [if_neg (by omega)]
      exact step_num (f:=fun v=>aloneO 4 0 v) l C he (by unfold needF;rw [if_pos rfl,if_pos h4]) (by rw [leB4];rfl) (by decide)
    · rw [if_neg h1]
      exact step_num (f:=fun v=>aloneO 4 0 v) l C he (by rfl) (by rw [leB4];rfl) (by decide)
end
end Go.Proofs.YtlnahkkemjgjbaaGreat
