import Derived.KernelRfl
import Derived.Test.YtlnahkkemjgjbaaGreatKNN
namespace Go.Proofs.YtlnahkkemjgjbaaGreat
section
theorem rd_told {L:Nat} {bs:Nat→Int} {s:RS}:(rdS L bs s).told=true:=by
  unfold rdS
  by_cases h:s.told=true
  · rw [if_pos h];exact h
  · rw [if_neg h];split <;> rfl
theorem rd_again {L:Nat} {bs:Nat→Int} (s:RS):rdS L bs (rdS L bs s)=rdS L bs s:=by
  have h:(rdS L bs s).told=true:=rd_told
  generalize rdS L bs s=t at *
  unfold rdS
  rw [if_pos h]
theorem oper_rd {L:Nat} {bs:Nat→Int} {p:Prt} (h:isRMp p=true) (size:Int) (s:RS):operS L bs (some p) size s=operS L bs (some p) size (rdS L bs s):=by
  cases p <;> first | exact absurd h (by decide) | (unfold operS partS;simp only [rd_again])
theorem fin_rd {L:Nat} {bs:Nat→Int} {f:LF} {p:Prt} (ha:f.a=some p) (h:isRMp p=true) (s:RS):finL L bs f s=finL L bs f (rdS L bs s):=by
  unfold finL
  rw [ha,oper_rd h]
theorem fin_of {L:Nat} {bs:Nat→Int} {f:LF} {s t1 t2 t3:RS} {x y z:Opd} (h1:operS L bs f.a f.size s=(x,t1)) (h2:operS L bs f.b f.size t1=(y,t2)) (h3:operS L bs f.c f.size t2=(z,t3)):finL L bs f s=if t3.err=0 then (⟨f.op,f.cond,f.size,x,y,z.disp,f.rep,t3.k⟩,0) else (zeroI,t3.err):=by
  unfold finL
  simp only [h1,h2,h3]
theorem fin_bad1 {L:Nat} {bs:Nat→Int} {f:LF} {s:RS} (h:(operS L bs f.a f.size s).2.err=21):finL L bs f s=(zeroI,21):=by
  have e2:=oper_err (L:=L) (bs:=bs) f.b f.size (s:=(operS L bs f.a f.size s).2) (by rw [h];decide)
  have e3:=oper_err (L:=L) (bs:=bs) f.c f.size (s:=(operS L bs f.b f.size (operS L bs f.a f.size s).2).2) (by rw [e2,h];decide)
  rw [fin_of (x:=(operS L bs f.a f.size s).1) (t1:=(operS L bs f.a f.size s).2) (y:=(operS L bs f.b f.size (operS L bs f.a f.size s).2).1) (t2:=(operS L bs f.b f.size (operS L bs f.a f.size s).2).2) (z:=(operS L bs f.c f.size (operS L bs f.b f.size (operS L bs f.a f.size s).2).2).1) (t3:=(operS L bs f.c f.size (operS L bs f.b f.size (operS L bs f.a f.size s).2).2).2) rfl rfl rfl,e3,e2,h,if_neg (by decide)]
theorem fin_bad2 {L:Nat} {bs:Nat→Int} {f:LF} {s t1:RS} {x:Opd} (h1:operS L bs f.a f.size s=(x,t1)) (h:(operS L bs f.b f.size t1).2.err=21):finL L bs f s=(zeroI,21):=by
  have e3:=oper_err (L:=L) (bs:=bs) f.c f.size (s:=(operS L bs f.b f.size t1).2) (by rw [h];decide)
  rw [fin_of h1 (y:=(operS L bs f.b f.size t1).1) (t2:=(operS L bs f.b f.size t1).2) (z:=(operS L bs f.c f.size (operS L bs f.b f.size t1).2).1) (t3:=(operS L bs f.c f.size (operS L bs f.b f.size t1).2).2) rfl rfl,e3,h,if_neg (by decide)]
theorem fin_bad3 {L:Nat} {bs:Nat→Int} {f:LF} {s t1 t2:RS} {x y:Opd} (h1:operS L bs f.a f.size s=(x,t1)) (h2:operS L bs f.b f.size t1=(y,t2)) (h:(operS L bs f.c f.size t2).2.err=21):finL L bs f s=(zeroI,21):=by
  rw [fin_of h1 h2 (z:=(operS L bs f.c f.size t2).1) (t3:=(operS L bs f.c f.size t2).2) rfl,h,if_neg (by decide)]
theorem made_none {i:Ins} {g:Frm} {rm:Opd} {reg:Int} {L:Nat} {bs:Nat→Int} {k:Nat} (h:runM g rm reg L bs g.how ⟨[],i.c,k⟩=none):madeF i g rm reg L bs k=(zeroI,21):=by unfold madeF;rw [h]
theorem made_some {i:Ins} {g:Frm} {rm:Opd} {reg:Int} {L:Nat} {bs:Nat→Int} {k:Nat} {t:Mst} (h:runM g rm reg L bs g.how ⟨[],i.c,k⟩=some t):madeF i g rm reg L bs k=({ i with a:=t.l.getD 0 i.a,b:=t.l.getD 1 i.b,c:=t.c,len:=t.at_ },0):=by unfold madeF;rw [h]
theorem c_step {L:Nat} {bs:Nat→Int} {g:Frm} {p:Prt} {z:UInt8} (h:okC g.size p z=true) {s:RS} (he:s.err=0) (rm:Opd) (reg:Int) (l:List Opd) (C:Int) :
    (stepM g rm reg L bs ⟨l,C,s.k⟩ z=none∧(partS L bs p g.size s).2.err=21) ∨ (stepM g rm reg L bs ⟨l,C,s.k⟩ z=some ⟨l,(partS L bs p g.size s).1.disp,(partS L bs p g.size s).2.k⟩∧(partS L bs p g.size s).2.err=0):=by
  cases p
  case number =>
    simp only [okC,Bool.and_eq_true,beq_iff_eq,bne_iff_ne] at h
    obtain ⟨rfl,h1⟩:=h
    show (_∧(numS L bs (if g.size=1 then 1 else 4) s).2.err=21) ∨ (_=some (Mst.mk l (numS L bs (if g.size=1 then 1 else 4) s).1 (numS L bs (if g.size=1 then 1 else 4) s).2.k)∧(numS L bs (if g.size=1 then 1 else 4) s).2.err=0)
    rw [if_neg h1]
    by_cases hL:L < s.k+4
    · refine .inl ⟨?_,by rw [num_no hL,fail_sets he]⟩
      unfold stepM
      rw [show needF g.size 76=4 from rfl,if_pos (by show L < s.k+4;exact hL)]
    · refine .inr ⟨?_,by rw [num_yes (by omega)];exact he⟩
      rw [num_yes (by omega)]
      unfold stepM
      rw [show needF g.size 76=4 from rfl,if_neg (by show ¬ L < s.k+4;exact hL)]
      show some (Mst.mk (l ++ []) (valF 4 76 bs s.k) (s.k+4))=_
      rw [List.append_nil,leB4]
      rfl
  case short =>
    simp only [okC,beq_iff_eq] at h
    subst h
    show (_∧(numS L bs 1 s).2.err=21) ∨ (_=some (Mst.mk l (sx9 (numS L bs 1 s).1) (numS L bs 1 s).2.k)∧(numS L bs 1 s).2.err=0)
    by_cases hL:L < s.k+1
    · refine .inl ⟨?_,by rw [num_no hL,fail_sets he]⟩
      unfold stepM
      rw [show needF g.size 66=1 from rfl,if_pos (by show L < s.k+1;exact hL)]
    · refine .inr ⟨?_,by rw [num_yes (by omega)];exact he⟩
      rw [num_yes (by omega)]
      unfold stepM
      rw [show needF g.size 66=1 from rfl,if_neg (by show ¬ L < s.k+1;exact hL)]
      show some (Mst.mk (l ++ []) (valF 1 66 bs s.k) (s.k+1))=_
      rw [List.append_nil,leB1]
      rfl
  all_goals cases h
theorem run1 {g:Frm} {rm:Opd} {reg:Int} {L:Nat} {bs:Nat→Int} {x:UInt8} {s:Mst}:runM g rm reg L bs [x] s=stepM g rm reg L bs s x:=by
  show (stepM g rm reg L bs s x).bind (runM g rm reg L bs [])=_
  cases stepM g rm reg L bs s x <;> rfl
theorem fin_made {L:Nat} {bs:Nat→Int} {f:LF} {g:Frm} {s:RS} {rm:Opd} {reg:Int} (hm:matchF f g s.opc=true) (he:s.err=0) (hk:s.k ≤ L) (hr:∀ p,f.a=some p→isRMp p=true→s.told=true∧s.rm=rm∧s.reg=reg) (hrm:rm.kind=1→rm=regO 1 rm.reg) :
    finL L bs f s=madeF ⟨g.op,g.cond,g.size,noneO,noneO,0,f.rep,0⟩ g rm reg L bs s.k:=by
  obtain ⟨fop,fcond,fsize,fa,fb,fc,frep⟩:=f
  obtain ⟨gop,gcond,gsize,how,gc⟩:=g
  simp only [matchF,Bool.and_eq_true,beq_iff_eq,bne_iff_ne,ne_eq] at hm
  obtain ⟨⟨⟨⟨⟨rfl,rfl⟩,rfl⟩,h0⟩,hn⟩,hm⟩:=hm
  have hnn:(fa=some .named ∨ fb=some .named)→s.opc % 8=gc:=fun h=>by
    simp only [Bool.or_eq_true,Bool.and_eq_true,bne_iff_ne,ne_eq,beq_iff_eq] at hn
    rcases hn with ⟨h1,h2⟩ | h3
    · rcases h with h | h
      · exact absurd h h1
      · exact absurd h h2
    · exact h3
  split at hm
  · -- no operand
    rw [fin_of (x:=noneO) (y:=noneO) (z:=noneO) (t1:=s) (t2:=s) (t3:=s) rfl rfl rfl,if_pos he,made_some (t:=⟨[],0,s.k⟩) rfl]
    rfl
  · rename_i a x
    rcases part_step (g:=⟨fop,fcond,fsize,[x],gc⟩) hm he hk (fun h=>hr a rfl h) hrm (fun h=>hnn (.inl (by rw [h]))) [] 0 with ⟨h1,h2⟩ | ⟨h1,h2,h3,h4,h5,h6,h7⟩
    · rw [fin_bad1 (f:=⟨fop,fcond,fsize,some a,none,none,frep⟩) h2,made_none (by show runM _ rm reg L bs [x] ⟨[],0,s.k⟩=none;rw [run1];exact h1)]
    · rw [fin_of (f:=⟨fop,fcond,fsize,some a,none,none,frep⟩) (x:=(partS L bs a fsize s).1) (t1:=(partS L bs a fsize s).2) (y:=noneO) (t2:=(partS L bs a fsize s).2) (z:=noneO) (t3:=(partS L bs a fsize s).2) rfl rfl rfl,made_some (by show runM _ rm reg L bs [x] ⟨[],0,s.k⟩=_;rw [run1];exact h1)]
      exact if_pos h2
  · rename_i a b x y
    simp only [Bool.and_eq_true,Bool.or_eq_true,Bool.not_eq_true'] at hm
    obtain ⟨⟨m1,m2⟩,m3⟩:=hm
    rcases part_step (g:=⟨fop,fcond,fsize,[x,y],gc⟩) m1 he hk (fun h=>hr a rfl h) hrm (fun h=>hnn (.inl (by rw [h]))) [] 0 with ⟨h1,h2⟩ | ⟨h1,h2,h3,h4,h5,h6,h7⟩
    · rw [fin_bad1 (f:=⟨fop,fcond,fsize,some a,some b,none,frep⟩) h2,made_none (by show (stepM _ rm reg L bs ⟨[],0,s.k⟩ x).bind _=none;rw [h1];rfl)]
    · have hrb:isRMp b=true→(partS L bs a fsize s).2.told=true∧(partS L bs a fsize s).2.rm=rm∧(partS L bs a fsize s).2.reg=reg:=fun hb=>by
        have ha:isRMp a=true:=by
          rcases m3 with h | h
          · exact h
          · rw [hb] at h;cases h
        obtain ⟨q1,q2,q3⟩:=hr a rfl ha
        exact ⟨by rw [show (partS L bs a fsize s).2.told=s.told from h3];exact q1,by rw [show (partS L bs a fsize s).2.rm=s.rm from h4];exact q2,by rw [show (partS L bs a fsize s).2.reg=s.reg from h5];exact q3⟩
      have hob:b=.named→(partS L bs a fsize s).2.opc % 8=gc:=fun h=>by rw [show (partS L bs a fsize s).2.opc=s.opc from h6];exact hnn (.inr (by rw [h]))
      rcases part_step (g:=⟨fop,fcond,fsize,[x,y],gc⟩) m2 h2 h7 hrb hrm hob ([] ++ [(partS L bs a fsize s).1]) 0 with ⟨k1,k2⟩ | ⟨k1,k2,k3,k4,k5,k6,k7⟩
      · rw [fin_bad2 (f:=⟨fop,fcond,fsize,some a,some b,none,frep⟩) (x:=(partS L bs a fsize s).1) (t1:=(partS L bs a fsize s).2) rfl k2,made_none (by show (stepM _ rm reg L bs ⟨[],0,s.k⟩ x).bind _=none;rw [h1];show runM _ rm reg L bs [y] _=none;rw [run1];exact k1)]
      · rw [fin_of (f:=⟨fop,fcond,fsize,some a,some b,none,frep⟩) (x:=(partS L bs a fsize s).1) (t1:=(partS L bs a fsize s).2) (y:=(partS L bs b fsize (partS L bs a fsize s).2).1) (t2:=(partS L bs b fsize (partS L bs a fsize s).2).2) (z:=noneO) (t3:=(partS L bs b fsize (partS L bs a fsize s).2).2) rfl rfl rfl,made_some (by show (stepM _ rm reg L bs ⟨[],0,s.k⟩ x).bind _=_;rw [h1];show runM _ rm reg L bs [y] _=_;rw [run1];exact k1)]
        exact if_pos k2
  · rename_i a b c x y z
    simp only [Bool.and_eq_true,Bool.or_eq_true,Bool.not_eq_true'] at hm
    obtain ⟨⟨⟨m1,m2⟩,mc⟩,m3⟩:=hm
    rcases part_step (g:=⟨fop,fcond,fsize,[x,y,z],gc⟩) m1 he hk (fun h=>hr a rfl h) hrm (fun h=>hnn (.inl (by rw [h]))) [] 0 with ⟨h1,h2⟩ | ⟨h1,h2,h3,h4,h5,h6,h7⟩
    · rw [fin_bad1 (f:=⟨fop,fcond,fsize,some a,some b,some c,frep⟩) h2,made_none (by show (stepM _ rm reg L bs ⟨[],0,s.k⟩ x).bind _=none;rw [h1];rfl)]
    · have hrb:isRMp b=true→(partS L bs a fsize s).2.told=true∧(partS L bs a fsize s).2.rm=rm∧(partS L bs a fsize s).2.reg=reg:=fun hb=>by
        have ha:isRMp a=true:=by
          rcases m3 with h | h
          · exact h
          · rw [hb] at h;cases h
        obtain ⟨q1,q2,q3⟩:=hr a rfl ha
        exact ⟨by rw [show (partS L bs a fsize s).2.told=s.told from h3];exact q1,by rw [show (partS L bs a fsize s).2.rm=s.rm from h4];exact q2,by rw [show (partS L bs a fsize s).2.reg=s.reg from h5];exact q3⟩
      have hob:b=.named→(partS L bs a fsize s).2.opc % 8=gc:=fun h=>by rw [show (partS L bs a fsize s).2.opc=s.opc from h6];exact hnn (.inr (by rw [h]))
      rcases part_step (g:=⟨fop,fcond,fsize,[x,y,z],gc⟩) m2 h2 h7 hrb hrm hob ([] ++ [(partS L bs a fsize s).1]) 0 with ⟨k1,k2⟩ | ⟨k1,k2,k3,k4,k5,k6,k7⟩
      · rw [fin_bad2 (f:=⟨fop,fcond,fsize,some a,some b,some c,frep⟩) (x:=(partS L bs a fsize s).1) (t1:=(partS L bs a fsize s).2) rfl k2,made_none (by show (stepM _ rm reg L bs ⟨[],0,s.k⟩ x).bind _=none;rw [h1];show (stepM _ rm reg L bs _ y).bind _=none;rw [k1];rfl)]
      · rcases c_step (L:=L) (bs:=bs) (g:=⟨fop,fcond,fsize,[x,y,z],gc⟩) mc (s:=(partS L bs b fsize (partS L bs a fsize s).2).2) k2 rm reg ([] ++ [(partS L bs a fsize s).1] ++ [(partS L bs b fsize (partS L bs a fsize s).2).1]) 0 with ⟨c1,c2⟩ | ⟨c1,c2⟩
        · rw [fin_bad3 (f:=⟨fop,fcond,fsize,some a,some b,some c,frep⟩) (x:=(partS L bs a fsize s).1) (t1:=(partS L bs a fsize s).2) (y:=(partS L bs b fsize (partS L bs a fsize s).2).1) (t2:=(partS L bs b fsize (partS L bs a fsize s).2).2) rfl rfl c2,made_none (by show (stepM _ rm reg L bs ⟨[],0,s.k⟩ x).bind _=none;rw [h1];show (stepM _ rm reg L bs _ y).bind _=none;rw [k1];show runM _ rm reg L bs [z] _=none;rw [run1];exact c1)]
        · rw [fin_of (f:=⟨fop,fcond,fsize,some a,some b,some c,frep⟩) (x:=(partS L bs a fsize s).1) (t1:=(partS L bs a fsize s).2) (y:=(partS L bs b fsize (partS L bs a fsize s).2).1) (t2:=(partS L bs b fsize (partS L bs a fsize s).2).2) (z:=(partS L bs c fsize (partS L bs b fsize (partS L bs a fsize s).2).2).1) (t3:=(partS L bs c fsize (partS L bs b fsize (partS L bs a fsize s).2).2).2) rfl rfl rfl,made_some (by show (stepM _ rm reg L bs ⟨[],0,s.k⟩ x).bind _=_;rw [h1];show (stepM _ rm reg L bs _ y).bind _=_;rw [k1];show runM _ rm reg L bs [z] _=_;rw [run1];exact c1)]
          exact if_pos c2
  · cases hm
end
section
theorem let_rm {size:Int} {p:Prt} {x:UInt8} (h:okLet size p x=true):isRM x=isRMp p:=by
  cases p
  all_goals simp only [okLet,Bool.or_eq_true,Bool.and_eq_true,beq_iff_eq,bne_iff_ne] at h
  case place=>rcases h with (⟨rfl,_⟩ | ⟨⟨rfl,_⟩,_⟩) | ⟨rfl,_⟩ <;> rfl
  case memory=>exact absurd h (by decide)
  case register=>rcases h with ⟨rfl,_⟩ | ⟨rfl,_⟩ <;> rfl
  case whole=>subst h;rfl
  case double=>subst h;rfl
  case named=>obtain ⟨rfl,_⟩:=h;rfl
  case first=>obtain ⟨rfl,_⟩:=h;rfl
  case counter=>subst h;rfl
  case fixed=>subst h;rfl
  case number=>rcases h with ⟨rfl,_⟩ | ⟨rfl,_⟩ <;> rfl
  case short=>subst h;rfl
  case half=>subst h;rfl
  case once=>subst h;rfl
theorem c_rm {size:Int} {p:Prt} {x:UInt8} (h:okC size p x=true):isRM x=false:=by
  cases p
  case number=>simp only [okC,Bool.and_eq_true,beq_iff_eq,bne_iff_ne] at h;obtain ⟨rfl,_⟩:=h;rfl
  case short=>simp only [okC,beq_iff_eq] at h;subst h;rfl
  all_goals cases h
def rmOf (f:LF):Bool:=match f.a with | some p=>isRMp p | none=>false
theorem match_has {f:LF} {g:Frm} {o:Int} (h:matchF f g o=true):hasF g.how=rmOf f:=by
  obtain ⟨fop,fcond,fsize,fa,fb,fc,frep⟩:=f
  obtain ⟨gop,gcond,gsize,how,gc⟩:=g
  unfold matchF at h
  simp only [Bool.and_eq_true] at h
  obtain ⟨_,hm⟩:=h
  unfold hasF rmOf
  split at hm
  · rfl
  · rename_i a x
    simp [let_rm hm]
  · rename_i a b x y
    simp only [Bool.and_eq_true,Bool.or_eq_true,Bool.not_eq_true'] at hm
    obtain ⟨⟨m1,m2⟩,m3⟩:=hm
    simp only [List.any_cons,List.any_nil,let_rm m1,let_rm m2]
    rcases m3 with h | h <;> simp [h]
  · rename_i a b c x y z
    simp only [Bool.and_eq_true,Bool.or_eq_true,Bool.not_eq_true'] at hm
    obtain ⟨⟨⟨m1,m2⟩,mc⟩,m3⟩:=hm
    simp only [List.any_cons,List.any_nil,let_rm m1,let_rm m2,c_rm mc]
    rcases m3 with h | h <;> simp [h]
  · cases hm
theorem fin_go {L:Nat} {bs:Nat→Int} {f:LF} {g:Frm} {s:RS} (hm:matchF f g s.opc=true) (he:s.err=0) (hk:s.k ≤ L) (ht:s.told=false):finL L bs f s=goF L bs g f.rep s.k:=by
  have hh:=match_has hm
  cases hr:rmOf f with
  | false =>
    rw [hr] at hh
    unfold goF
    rw [hh,if_neg (by decide)]
    exact fin_made hm he hk (fun p hp h=>by unfold rmOf at hr;rw [hp] at hr;rw [show isRMp p=false from hr] at h;cases h) (fun h=>by cases h)
  | true =>
    rw [hr] at hh
    obtain ⟨p,hp,hpr⟩:∃ p,f.a=some p∧isRMp p=true:=by
      unfold rmOf at hr
      split at hr
      · exact ⟨_,by assumption,hr⟩
      · cases hr
    rw [fin_rd hp hpr]
    unfold goF
    rw [hh,if_pos rfl]
    cases hrm:rmF (L - s.k) (fun i=>bs (s.k+i)) with
    | none =>
      have e:rdS L bs s={ failS s 21 with told:=true,rm:=zeroO,reg:=0 }:=by unfold rdS;rw [ht,hrm];rfl
      rw [e,fin_err f (by show (failS s 21).err ≠ 0;rw [fail_sets he];decide)]
      show (zeroI,(failS s 21).err)=_
      rw [fail_sets he]
    | some x =>
      obtain ⟨o,r,n⟩:=x
      have e:rdS L bs s={ s with told:=true,rm:=o,reg:=r,k:=s.k+n }:=by unfold rdS;rw [ht,hrm];rfl
      rw [e]
      have h3:=(rm_three hrm).1
      have hko:o.kind=1→o=regO 1 o.reg:=rm_kind hrm
      exact fin_made (s:={ s with told:=true,rm:=o,reg:=r,k:=s.k+n }) hm he (by show s.k+n ≤ L;omega) (fun _ _ _=>⟨rfl,rfl,rfl⟩) hko
def okRow (f:LF) (g:Frm) (ok:Bool) (o:Int):Bool:=(ok == (f.op != 0)) && (!ok || matchF f g o)
def chk1 (c r:Int) (m:Bool):Bool :=
  if c=15 ∨ c=102 ∨ c=242 ∨ c=243 then true
  else if isGrp c=true then (if r < 0 then (firstF c r m).2.2 else !(firstF c r m).2.2 && okRow (grpL c r) (firstF c r m).1 (firstF c r m).2.1 c)
  else if c=141 then (if r < 0 then (firstF c r m).2.2 else !(firstF c r m).2.2 && ((firstF c r m).2.1 == !m) && ((firstF c r m).1 == (⟨21,0,4,[71,69],5⟩:Frm)))
  else !(firstF c r m).2.2 && okRow (octL c) (firstF c r m).1 (firstF c r m).2.1 c
theorem chk1_all:((List.range 256).all fun c=>(List.range 9).all fun r=>chk1 (c:Int) ((r:Int) - 1) true && chk1 (c:Int) ((r:Int) - 1) false)=true:=by kernel_rfl
def chk2 (c:Int):Bool:=okRow (after0FL c) (secondF 0 c).1 (secondF 0 c).2 15 && okRow (after66L c) (secondF 102 c).1 (secondF 102 c).2 102 && okRow (afterF2L c) (secondF 242 c).1 (secondF 242 c).2 242
theorem chk2_all:((List.range 256).all fun c=>chk2 (c:Int))=true:=by kernel_rfl
end
section
open Go.ChangeShapes Go.WideShapes Go.ChangeAt Go.RowKit in
theorem chk1_at (c r:Int) (m:Bool) (c0:0 ≤ c) (c1:c < 256) (r0:-1 ≤ r) (r1:r < 8):chk1 c r m=true:=by
  obtain ⟨n,rfl⟩:=Int.eq_ofNat_of_zero_le c0
  obtain ⟨k,hk⟩:∃ k:Nat,r=(k:Int) - 1:=⟨(r+1).toNat,by omega⟩
  subst hk
  have h1:=List.all_eq_true.1 chk1_all n (List.mem_range.2 (by omega))
  have h2:=List.all_eq_true.1 h1 k (List.mem_range.2 (by omega))
  simp only [Bool.and_eq_true] at h2
  cases m
  · exact h2.2
  · exact h2.1
theorem chk2_at (c:Int) (c0:0 ≤ c) (c1:c < 256):okRow (after0FL c) (secondF 0 c).1 (secondF 0 c).2 15=true∧okRow (after66L c) (secondF 102 c).1 (secondF 102 c).2 102=true∧okRow (afterF2L c) (secondF 242 c).1 (secondF 242 c).2 242=true:=by
  obtain ⟨n,rfl⟩:=Int.eq_ofNat_of_zero_le c0
  have h1:=List.all_eq_true.1 chk2_all n (List.mem_range.2 (by omega))
  unfold chk2 at h1
  simp only [Bool.and_eq_true] at h1
  exact ⟨h1.1.1,h1.1.2,h1.2⟩
theorem row_yes {f:LF} {g:Frm} {ok:Bool} {o:Int} (h:okRow f g ok o=true) (hk:ok=true):f.op ≠ 0∧matchF f g o=true:=by
  subst hk
  unfold okRow at h
  simp only [Bool.and_eq_true,beq_iff_eq,Bool.not_true,Bool.false_or] at h
  exact ⟨by simpa using h.1.symm,h.2⟩
theorem row_no {f:LF} {g:Frm} {ok:Bool} {o:Int} (h:okRow f g ok o=true) (hk:ok=false):f.op=0:=by
  subst hk
  unfold okRow at h
  simp only [Bool.and_eq_true,beq_iff_eq] at h
  simpa using h.1.symm
def endL (L:Nat) (bs:Nat→Int) (f:LF) (s:RS):Ins × Int:=finL L bs f (if f.op=0 then failS s 22 else s)
theorem land_end (L:Nat) (bs:Nat→Int):landF L bs=endL L bs (formS L bs startS).1 (formS L bs startS).2:=rfl
theorem end_err {L:Nat} {bs:Nat→Int} (f:LF) {s:RS} (h:s.err ≠ 0):endL L bs f s=(zeroI,s.err):=by
  unfold endL
  split
  · rw [fail_keeps h];exact fin_err f h
  · exact fin_err f h
theorem end_row {L:Nat} {bs:Nat→Int} {f:LF} {g:Frm} {ok:Bool} {s:RS} {rep:Bool} (h:okRow f g ok s.opc=true) (he:s.err=0) (hk:s.k ≤ L) (ht:s.told=false) (hrep:f.rep=rep):endL L bs f s=if ok then goF L bs g rep s.k else (zeroI,22):=by
  cases ok with
  | true =>
    obtain ⟨h1,h2⟩:=row_yes h rfl
    unfold endL
    rw [if_neg h1,fin_go h2 he hk ht,hrep]
    rfl
  | false =>
    have h1:=row_no h rfl
    unfold endL
    rw [if_pos h1,fin_err f (by rw [fail_sets he];decide),fail_sets he]
    rfl
theorem rep_0F (c:Int):(after0FL c).rep=false:=by unfold after0FL;repeat' (first | rfl | split)
theorem rep_66 (c:Int):(after66L c).rep=false:=by unfold after66L;repeat' (first | rfl | split)
theorem rep_F2 (c:Int):(afterF2L c).rep=false:=by unfold afterF2L;repeat' (first | rfl | split)
theorem rep_ite {p:Prop} [Decidable p] {a b:LF} (ha:a.rep=false) (hb:b.rep=false):(if p then a else b).rep=false:=by split <;> assumption
theorem rep_bare (c:Int):(bareL c).rep=false:=by
  unfold bareL
  repeat (refine rep_ite rfl ?_)
  rfl
theorem rep_single (c:Int):(singleL c).rep=false:=by
  unfold singleL
  repeat (refine rep_ite rfl ?_)
  first | rfl | exact rep_bare c
theorem rep_oct (c:Int):(octL c).rep=false:=by
  unfold octL reckL
  repeat' (first | rfl | exact rep_single c | split)
theorem num_one {L:Nat} {bs:Nat→Int} {s:RS} (h:s.k < L):numS L bs 1 s=(bs s.k,{ s with k:=s.k+1 }):=by rw [num_yes (by omega),leB1]
theorem beh_bd (L:Nat) (bs:Nat→Int) (k:Nat):-1 ≤ behF L bs k∧behF L bs k < 8:=by unfold behF;split <;> omega
theorem esc_short {L:Nat} {bs:Nat→Int} {s:RS} (he:s.err=0) (h:L ≤ s.k):(escS L bs s).1=0∧(escS L bs s).2.err=21:=by
  have e1:numS L bs 1 s=(0,failS s 21):=num_no (by omega)
  have f1:(failS s 21).err=21:=fail_sets he 21
  have k1:(failS s 21).k=s.k:=by unfold failS;split <;> rfl
  have f2:failS (failS s 21) 22=failS s 21:=fail_keeps (by rw [f1];decide) 22
  have e2:escS L bs s=numS L bs 1 (failS s 21):=by
    unfold escS
    rw [e1]
    simp only
    rw [if_neg (by decide),f2]
  rw [e2,num_no (by rw [k1];omega)]
  exact ⟨rfl,by rw [fail_keeps (by rw [f1];decide)];exact f1⟩
theorem esc_bad {L:Nat} {bs:Nat→Int} {s:RS} (he:s.err=0) (h:s.k < L) (hn:bs s.k ≠ 15):(escS L bs s).2.err=22:=by
  have e1:=num_one (bs:=bs) h
  unfold escS
  rw [e1]
  simp only
  rw [if_neg hn]
  have f1:(failS { s with k:=s.k+1 } 22).err=22:=fail_sets (show ({ s with k:=s.k+1 }:RS).err=0 from he) 22
  rw [num_err (by rw [f1];decide),f1]
theorem esc_yes {L:Nat} {bs:Nat→Int} {s:RS} (h:s.k < L) (hn:bs s.k=15):escS L bs s=numS L bs 1 { s with k:=s.k+1 }:=by
  have e1:=num_one (bs:=bs) h
  unfold escS
  rw [e1]
  simp only
  rw [if_pos hn]
theorem land_two {L:Nat} {bs:Nat→Int} (hb:∀ i,0 ≤ bs i∧bs i < 256) {p o:Int} {tab:Int→LF} {s:RS} (ht:∀ c,0 ≤ c→c < 256→okRow (tab c) (secondF p c).1 (secondF p c).2 o=true) (hr:∀ c,(tab c).rep=false) (he:s.err=0) (ho:s.opc=o) (htd:s.told=false) (k:Nat) (hk:s.k=k) :
    endL L bs (tab (numS L bs 1 s).1) (numS L bs 1 s).2=twoF L bs p k:=by
  subst hk ho
  unfold twoF
  by_cases h:L ≤ s.k
  · rw [if_pos h,num_no (by omega),end_err _ (by rw [fail_sets he];decide),fail_sets he]
  · rw [if_neg h,num_one (by omega)]
    exact end_row (s:={ s with k:=s.k+1 }) (ht _ (hb _).1 (hb _).2) he (by show s.k+1 ≤ L;omega) htd (hr _)
theorem lea_land {L:Nat} {bs:Nat→Int} {s:RS} (he:s.err=0) (ht:s.told=false) (h1:s.k < L):endL L bs ⟨21,0,4,some .register,some .memory,none,false⟩ s=if bs s.k / 64=3 then (zeroI,22) else goF L bs ⟨21,0,4,[71,69],5⟩ false s.k:=by
  unfold endL
  rw [if_neg (by decide),fin_rd (p:=.register) rfl rfl]
  have hg:goF L bs ⟨21,0,4,[71,69],5⟩ false s.k=match rmF (L - s.k) (fun i=>bs (s.k+i)) with
      | none=>(zeroI,21)
      | some (o,r,n)=>madeF ⟨21,0,4,noneO,noneO,0,false,0⟩ ⟨21,0,4,[71,69],5⟩ o r L bs (s.k+n):=by unfold goF;rw [if_pos (show hasF [71,69]=true from rfl)];rfl
  rw [hg]
  cases hrm:rmF (L - s.k) (fun i=>bs (s.k+i)) with
  | none =>
    have h3:bs s.k / 64 ≠ 3:=fun h=>by
      unfold rmF at hrm
      rw [if_neg (by omega),if_pos (by show bs (s.k+0) / 64=3;rw [Nat.add_zero];exact h)] at hrm
      cases hrm
    have e:rdS L bs s={ failS s 21 with told:=true,rm:=zeroO,reg:=0 }:=by unfold rdS;rw [ht,hrm];rfl
    rw [if_neg h3,e,fin_err _ (by show (failS s 21).err ≠ 0;rw [fail_sets he];decide)]
    show (zeroI,(failS s 21).err)=_
    rw [fail_sets he]
  | some x =>
    obtain ⟨o,r,n⟩:=x
    have e:rdS L bs s={ s with told:=true,rm:=o,reg:=r,k:=s.k+n }:=by unfold rdS;rw [ht,hrm];rfl
    obtain ⟨h3,hkd⟩:=rm_three hrm
    rw [Nat.add_zero] at hkd
    have hq:=fun (t:RS) (htt:t.told=true)=>(show rdS L bs t=t by unfold rdS;rw [if_pos htt])
    rw [e]
    by_cases hm:bs s.k / 64=3
    · rw [if_pos hm] at hkd ⊢
      have hko:=rm_kind hrm hkd
      have f1:(operS L bs (some .register) 4 { s with told:=true,rm:=o,reg:=r,k:=s.k+n })=(aloneO 1 r 0,{ s with told:=true,rm:=o,reg:=r,k:=s.k+n }):=by
        show (aloneO (kindF 4) (rdS L bs _).reg 0,rdS L bs _)=_
        rw [hq _ rfl];rfl
      have f2:(operS L bs (some .memory) 4 { s with told:=true,rm:=o,reg:=r,k:=s.k+n }).2.err=22:=by
        show (if (placeO (rdS L bs _).rm 4).kind=3 then rdS L bs _ else failS (rdS L bs _) 22).err=22
        rw [hq _ rfl,if_neg (by show (placeO o 4).kind ≠ 3;unfold placeO;rw [if_pos hkd];show kindF 4 ≠ 3;decide)]
        exact fail_sets (show ({ s with told:=true,rm:=o,reg:=r,k:=s.k+n }:RS).err=0 from he) 22
      have e3:=oper_err (L:=L) (bs:=bs) none 4 (s:=(operS L bs (some .memory) 4 { s with told:=true,rm:=o,reg:=r,k:=s.k+n }).2) (by rw [f2];decide)
      rw [fin_of (f:=⟨21,0,4,some .register,some .memory,none,false⟩) f1 (y:=(operS L bs (some .memory) 4 { s with told:=true,rm:=o,reg:=r,k:=s.k+n }).1) (t2:=(operS L bs (some .memory) 4 { s with told:=true,rm:=o,reg:=r,k:=s.k+n }).2) (z:=noneO) (t3:=(operS L bs (some .memory) 4 { s with told:=true,rm:=o,reg:=r,k:=s.k+n }).2) rfl rfl,f2,if_neg (by decide)]
    · rw [if_neg hm] at hkd ⊢
      have f1:(operS L bs (some .register) 4 { s with told:=true,rm:=o,reg:=r,k:=s.k+n })=(aloneO 1 r 0,{ s with told:=true,rm:=o,reg:=r,k:=s.k+n }):=by
        show (aloneO (kindF 4) (rdS L bs _).reg 0,rdS L bs _)=_
        rw [hq _ rfl];rfl
      have hp:placeO o 4=o:=place_same (fun h=>by rw [hkd] at h;cases h) (by decide) (by decide)
      have f2:(operS L bs (some .memory) 4 { s with told:=true,rm:=o,reg:=r,k:=s.k+n })=(o,{ s with told:=true,rm:=o,reg:=r,k:=s.k+n }):=by
        show (placeO (rdS L bs _).rm 4,if (placeO (rdS L bs _).rm 4).kind=3 then rdS L bs _ else failS (rdS L bs _) 22)=_
        rw [hq _ rfl]
        show (placeO o 4,if (placeO o 4).kind=3 then _ else _)=_
        rw [hp,if_pos hkd]
      rw [fin_of (f:=⟨21,0,4,some .register,some .memory,none,false⟩) f1 f2 (z:=noneO) (t3:={ s with told:=true,rm:=o,reg:=r,k:=s.k+n }) rfl,if_pos he]
      show _=madeF _ _ o r L bs (s.k+n)
      rw [made_some (t:=⟨[regO 1 r,o],0,s.k+n⟩) (by
        show (stepM _ o r L bs ⟨[],0,s.k+n⟩ 71).bind (runM _ o r L bs [69])=_
        rw [show stepM ⟨21,0,4,[71,69],5⟩ o r L bs ⟨[],0,s.k+n⟩ 71=some ⟨[regO 1 r],0,s.k+n⟩ by unfold stepM;rw [show needF 4 71=0 from rfl,if_neg (by show ¬ L < s.k+n+0;omega)];rfl]
        show runM _ o r L bs [69] ⟨[regO 1 r],0,s.k+n⟩=_
        rw [run1]
        unfold stepM
        rw [show needF 4 69=0 from rfl,if_neg (by show ¬ L < s.k+n+0;omega)]
        rfl)]
      rfl
theorem land_one (L:Nat) (bs:Nat→Int) (hb:∀ i,0 ≤ bs i∧bs i < 256):landF L bs=oneF L bs:=by
  rw [land_end]
  by_cases h0:L=0
  · have e1:numS L bs 1 startS=(0,failS startS 21):=num_no (by show L < 0+1;omega)
    have e:(formS L bs startS).2.err=21:=by
      unfold formS
      simp only [e1]
      rfl
    rw [end_err _ (by rw [e];decide),e]
    unfold oneF
    rw [if_pos h0]
  have e1:numS L bs 1 startS=(bs 0,{ startS with k:=1 }):=num_one (show startS.k < L by show 0 < L;omega)
  obtain ⟨c0,c1⟩:=hb 0
  unfold oneF
  rw [if_neg h0]
  by_cases h15:bs 0=15
  · have e:formS L bs startS=(after0FL (numS L bs 1 ⟨1,15,0,false,zeroO,0⟩).1,(numS L bs 1 ⟨1,15,0,false,zeroO,0⟩).2):=by
      unfold formS
      simp only [e1,h15]
      rfl
    rw [e,if_neg (by omega),if_pos h15]
    exact land_two hb (fun c a b=>(chk2_at c a b).1) rep_0F rfl rfl rfl 1 rfl
  by_cases h243:bs 0=243
  · have e:formS L bs startS=(afterF3L (numS L bs 1 ⟨1,243,0,false,zeroO,0⟩).1,(numS L bs 1 ⟨1,243,0,false,zeroO,0⟩).2):=by
      unfold formS
      simp only [e1,h243]
      rfl
    rw [e,if_pos h243]
    by_cases h2:L < 2
    · have e2:numS L bs 1 ⟨1,243,0,false,zeroO,0⟩=(0,failS ⟨1,243,0,false,zeroO,0⟩ 21):=num_no (by show L < 1+1;omega)
      rw [e2,if_pos h2]
      exact end_err _ (by decide)
    · have e2:numS L bs 1 ⟨1,243,0,false,zeroO,0⟩=(bs 1,⟨2,243,0,false,zeroO,0⟩):=num_one (show 1 < L by omega)
      rw [e2,if_neg h2]
      show endL L bs (afterF3L (bs 1)) ⟨2,243,0,false,zeroO,0⟩=_
      by_cases hs:bs 1=164 ∨ bs 1=165 ∨ bs 1=170 ∨ bs 1=171
      · rw [if_pos hs]
        have hm:∀ z,(z=164 ∨ z=165 ∨ z=170 ∨ z=171)→okRow (afterF3L z) (firstF z (-1) false).1 true 243=true∧(afterF3L z).rep=true:=fun z hz=>by rcases hz with rfl | rfl | rfl | rfl <;> exact ⟨by decide,by decide⟩
        exact end_row (s:=⟨2,243,0,false,zeroO,0⟩) (hm _ hs).1 rfl (by show 2 ≤ L;omega) rfl (hm _ hs).2
      · rw [if_neg hs]
        have e3:afterF3L (bs 1)=nilL:=by unfold afterF3L;rw [if_neg hs]
        rw [e3]
        unfold endL
        rw [if_pos (show nilL.op=0 from rfl),fin_err _ (by decide)]
        rfl
  by_cases h66:bs 0=102 ∨ bs 0=242
  · obtain ⟨tab,p,e,hp,hok,hrep⟩:∃ (tab:Int→LF) (p:Int),formS L bs startS=(tab (escS L bs ⟨1,p,0,false,zeroO,0⟩).1,(escS L bs ⟨1,p,0,false,zeroO,0⟩).2)∧bs 0=p∧(∀ c,0 ≤ c→c < 256→okRow (tab c) (secondF p c).1 (secondF p c).2 p=true)∧(∀ c,(tab c).rep=false):=by
      rcases h66 with h | h
      · exact ⟨after66L,102,by unfold formS;simp only [e1,h];rfl,h,fun c a b=>(chk2_at c a b).2.1,rep_66⟩
      · exact ⟨afterF2L,242,by unfold formS;simp only [e1,h];rfl,h,fun c a b=>(chk2_at c a b).2.2,rep_F2⟩
    rw [e,if_neg h243,if_neg h15,if_pos (by omega)]
    by_cases h2:L < 2
    · obtain ⟨q1,q2⟩:=esc_short (L:=L) (bs:=bs) (s:=⟨1,p,0,false,zeroO,0⟩) rfl (by show L ≤ 1;omega)
      rw [if_pos h2,end_err _ (by rw [q2];decide),q2]
    · rw [if_neg h2]
      by_cases h1:bs 1=15
      · rw [if_pos h1,hp,esc_yes (s:=⟨1,p,0,false,zeroO,0⟩) (show 1 < L by omega) h1]
        exact land_two hb hok hrep rfl rfl rfl 2 rfl
      · have q2:=esc_bad (L:=L) (bs:=bs) (s:=⟨1,p,0,false,zeroO,0⟩) rfl (show 1 < L by omega) h1
        rw [if_neg h1,end_err _ (by rw [q2];decide),q2]
  have hbd:=beh_bd L bs 1
  have hck:=chk1_at (bs 0) (behF L bs 1) (behM L bs 1) c0 c1 hbd.1 hbd.2
  unfold chk1 at hck
  rw [if_neg (by omega)] at hck
  rw [if_neg h243,if_neg h15,if_neg (by omega)]
  have hlt:L < 2→behF L bs 1=-1:=fun h=>by unfold behF;rw [if_neg (by omega)]
  have hge:¬ L < 2→0 ≤ behF L bs 1∧behF L bs 1=bs 1 / 8 % 8:=fun h=>by unfold behF;rw [if_pos (by omega)];omega
  by_cases hg:isGrp (bs 0)=true
  · have e:formS L bs startS=(grpL (bs 0) (memS L bs ⟨1,bs 0,0,false,zeroO,0⟩).1,(memS L bs ⟨1,bs 0,0,false,zeroO,0⟩).2):=by
      unfold formS
      simp only [e1]
      rw [if_neg h15,if_neg (by omega),if_neg (by omega),if_neg (by omega),if_pos hg]
      rfl
    rw [if_pos hg] at hck
    rw [e]
    by_cases h2:L < 2
    · have e2:memS L bs ⟨1,bs 0,0,false,zeroO,0⟩=(0,failS ⟨1,bs 0,0,false,zeroO,0⟩ 21):=by unfold memS;rw [if_pos (by show L ≤ 1;omega)]
      rw [if_pos (by rw [hlt h2];decide)] at hck
      rw [e2,hck,if_pos rfl]
      exact end_err _ (show (21:Int) ≠ 0 by decide)
    · have e2:memS L bs ⟨1,bs 0,0,false,zeroO,0⟩=(bs 1 / 8 % 8,⟨1,bs 0,0,false,zeroO,0⟩):=by unfold memS;rw [if_neg (by show ¬ L ≤ 1;omega)]
      obtain ⟨g1,g2⟩:=hge h2
      rw [if_neg (by omega)] at hck
      simp only [Bool.and_eq_true,Bool.not_eq_true'] at hck
      rw [e2,hck.1,if_neg (by decide),← g2]
      exact end_row (s:=⟨1,bs 0,0,false,zeroO,0⟩) hck.2 rfl (by show 1 ≤ L;omega) rfl rfl
  rw [if_neg hg] at hck
  have e:formS L bs startS=(octL (bs 0),⟨1,bs 0,0,false,zeroO,0⟩):=by
    unfold formS
    simp only [e1]
    rw [if_neg h15,if_neg (by omega),if_neg (by omega),if_neg (by omega),if_neg hg]
    rfl
  rw [e]
  by_cases h141:bs 0=141
  · rw [if_pos h141] at hck
    have eo:octL (bs 0)=⟨21,0,4,some .register,some .memory,none,false⟩:=by rw [h141];rfl
    rw [eo]
    by_cases h2:L < 2
    · rw [if_pos (by rw [hlt h2];decide)] at hck
      rw [hck,if_pos rfl]
      have e3:rdS L bs ⟨1,bs 0,0,false,zeroO,0⟩={ failS ⟨1,bs 0,0,false,zeroO,0⟩ 21 with told:=true,rm:=zeroO,reg:=0 }:=by
        have hn:rmF (L - 1) (fun i=>bs (1+i))=none:=by unfold rmF;rw [if_pos (by omega)]
        unfold rdS
        rw [if_neg (show ¬ (false=true) by decide),show rmF (L - (⟨1,bs 0,0,false,zeroO,0⟩:RS).k) (fun i=>bs ((⟨1,bs 0,0,false,zeroO,0⟩:RS).k+i))=none from hn]
      show endL L bs ⟨21,0,4,some .register,some .memory,none,false⟩ ⟨1,bs 0,0,false,zeroO,0⟩=(zeroI,21)
      unfold endL
      rw [if_neg (by decide),fin_rd (p:=.register) rfl rfl,e3]
      exact fin_err _ (show (21:Int) ≠ 0 by decide)
    · obtain ⟨g1,g2⟩:=hge h2
      rw [if_neg (by omega)] at hck
      simp only [Bool.and_eq_true,Bool.not_eq_true',beq_iff_eq] at hck
      obtain ⟨⟨k1,k2⟩,k3⟩:=hck
      rw [k1,k2,k3,if_neg (by decide)]
      show endL L bs ⟨21,0,4,some .register,some .memory,none,false⟩ ⟨1,bs 0,0,false,zeroO,0⟩=_
      rw [lea_land (s:=⟨1,bs 0,0,false,zeroO,0⟩) rfl rfl (by show 1 < L;omega)]
      show (if bs 1 / 64=3 then _ else _)=_
      unfold behM
      by_cases h3:bs 1 / 64=3
      · rw [if_pos h3,h3,decide_eq_true (show 1 < L by omega)]
        rfl
      · have h3':(bs 1 / 64 == 3)=false:=by simpa using h3
        rw [if_neg h3,h3',decide_eq_true (show 1 < L by omega)]
        rfl
  · rw [if_neg h141] at hck
    simp only [Bool.and_eq_true,Bool.not_eq_true'] at hck
    rw [hck.1,if_neg (by decide)]
    exact end_row (s:=⟨1,bs 0,0,false,zeroO,0⟩) hck.2 rfl (by show 1 ≤ L;omega) rfl (rep_oct _)
end
section
open Go.ChangeShapes Go.WideShapes Go.ChangeAt Go.RowKit
theorem done_any (v:Value) (L:Nat) (bs:Nat→Int) (hb:∀ i,0 ≤ bs i∧bs i < 256) (hL:L ≤ 1099511627776) (w:World) (hs:Slc .u8 w v L bs) :
    Calls Tryz.prog 11 #[v] w fun e w'=>e=.returned (insR (oneF L bs))∧Below w.heap.size w w':=by
  rw [← land_one L bs hb]
  obtain ⟨f,s,hfs⟩:∃ f s,formS L bs startS=(f,s):=⟨_,_,rfl⟩
  by_cases hop:f.op=0
  · obtain ⟨a,s1,h1⟩:∃ a s1,operS L bs f.a f.size (failS s 22)=(a,s1):=⟨_,_,rfl⟩
    obtain ⟨b,s2,h2⟩:∃ b s2,operS L bs f.b f.size s1=(b,s2):=⟨_,_,rfl⟩
    obtain ⟨c,s3,h3⟩:∃ c s3,operS L bs f.c f.size s2=(c,s3):=⟨_,_,rfl⟩
    have e0:(failS s 22).err ≠ 0:=by
      unfold failS
      split
      · show (22:Int) ≠ 0;decide
      · assumption
    have e1:=oper_err (L:=L) (bs:=bs) f.a f.size e0
    rw [h1] at e1
    have e1':s1.err ≠ 0:=fun h=>e0 (e1.symm.trans h)
    have e2:=oper_err (L:=L) (bs:=bs) f.b f.size e1'
    rw [h2] at e2
    have e2':s2.err ≠ 0:=fun h=>e1' (e2.symm.trans h)
    have e3:=oper_err (L:=L) (bs:=bs) f.c f.size e2'
    rw [h3] at e3
    have e3':s3.err ≠ 0:=fun h=>e2' (e3.symm.trans h)
    exact done_bad v L bs hb hL w hs f s hfs hop a b c s1 s2 s3 h1 h2 h3 e3'
  · obtain ⟨a,s1,h1⟩:∃ a s1,operS L bs f.a f.size s=(a,s1):=⟨_,_,rfl⟩
    obtain ⟨b,s2,h2⟩:∃ b s2,operS L bs f.b f.size s1=(b,s2):=⟨_,_,rfl⟩
    obtain ⟨c,s3,h3⟩:∃ c s3,operS L bs f.c f.size s2=(c,s3):=⟨_,_,rfl⟩
    by_cases he:s3.err=0
    · exact done_yes v L bs hb hL w hs f s hfs hop a b c s1 s2 s3 h1 h2 h3 he
    · exact done_err v L bs hb hL w hs f s hfs hop a b c s1 s2 s3 h1 h2 h3 he
end
end Go.Proofs.YtlnahkkemjgjbaaGreat
