import Derived.WalkKit
import Derived.Maps.Own
import Derived.Maps.OwnOps
import Derived.Maps.Views
import Derived.Test.YtlnahkkemjgjbaaGreatRows
import Derived.ProofKit
import Derived.OpenShut
import Derived.BigRegion
import Derived.Lib.Hide
import Derived.WalkLawsBesides
import Derived.Deep.OwnRows
import Derived.StillTailTactics
import Derived.Deep.DeepCutAuto
import Derived.ChangeSame
import Derived.ChangeArms
import Derived.Carry
import Derived.ChangeSlices
import Derived.Laws.IdiomStrings
import Derived.Laws.BytesString
namespace Go.Proofs.YtlnahkkemjgjbaaGreat
section
structure Opd where
  kind:Int
  reg:Int
  base:Int
  index:Int
  scale:Int
  disp:Int
  deriving DecidableEq
def sx9 (c:Int):Int:=if c < 128 then c else c+4294967040
def four9 (a b c d:Int):Int:=a+b * 256+c * 65536+d * 16777216
def scale9 (k:Int):Int:=if k=0 then 1 else if k=1 then 2 else if k=2 then 4 else 8
def sibI (s:Int):Int:=if s / 8 % 8=4 then -1 else s / 8 % 8
def sibS (s:Int):Int:=if s / 8 % 8=4 then 1 else scale9 (s / 64)
def more9 (md base:Int):Nat:=if md=0 then (if base=5 then 4 else 0) else if md=1 then 1 else 4
def disp9 (k:Nat) (bs:Nat→Int) (n:Nat):Int:=if k=1 then sx9 (bs n) else if k=4 then four9 (bs n) (bs (n+1)) (bs (n+2)) (bs (n+3)) else 0
def base9 (md base:Int):Int:=if md=0∧base=5 then -1 else base
def rmF (L:Nat) (bs:Nat→Int):Option (Opd × Int × Nat) :=
  if L=0 then none
  else if bs 0 / 64=3 then some (⟨1,bs 0 % 8,-1,-1,1,0⟩,bs 0 / 8 % 8,1)
  else if bs 0 % 8=4 then
    if L < 2 then none
    else if L < 2+more9 (bs 0 / 64) (bs 1 % 8) then none
    else some (⟨3,0,base9 (bs 0 / 64) (bs 1 % 8),sibI (bs 1),sibS (bs 1),disp9 (more9 (bs 0 / 64) (bs 1 % 8)) bs 2⟩,bs 0 / 8 % 8,2+more9 (bs 0 / 64) (bs 1 % 8))
  else if L < 1+more9 (bs 0 / 64) (bs 0 % 8) then none
  else some (⟨3,0,base9 (bs 0 / 64) (bs 0 % 8),-1,1,disp9 (more9 (bs 0 / 64) (bs 0 % 8)) bs 1⟩,bs 0 / 8 % 8,1+more9 (bs 0 / 64) (bs 0 % 8))
def memOk (o:Opd):Prop:=o.kind=3∧o.reg=0∧-1 ≤ o.base∧o.base ≤ 7∧-1 ≤ o.index∧o.index ≤ 7∧o.index ≠ 4∧(o.scale=1 ∨ o.scale=2 ∨ o.scale=4 ∨ o.scale=8)∧(o.index ≠ -1 ∨ o.scale=1)
instance (o:Opd):Decidable (memOk o):=by unfold memOk;infer_instance
def regOk (o:Opd):Prop:=0 ≤ o.reg∧o.reg ≤ 7∧o=⟨1,o.reg,-1,-1,1,0⟩
instance (o:Opd):Decidable (regOk o):=by unfold regOk;infer_instance
def log9 (s:Int):Int:=if s=1 then 0 else if s=2 then 1 else if s=4 then 2 else 3
def bytes4 (v:Int):List Int:=[v % 256,v / 256 % 256,v / 65536 % 256,v / 16777216 % 256]
def addM (o:Opd):Int:=if o.base=-1 then 0 else if o.disp=0∧o.base ≠ 5 then 0 else if sx9 (o.disp % 256)=o.disp then 1 else 2
def addB (o:Opd):List Int:=if o.base=-1 then bytes4 o.disp else if o.disp=0∧o.base ≠ 5 then [] else if sx9 (o.disp % 256)=o.disp then [o.disp % 256] else bytes4 o.disp
def putF (reg:Int) (o:Opd):List Int :=
  if o.kind=1 then [192+reg * 8+o.reg]
  else if o.index=-1∧o.base ≠ 4 then (addM o * 64+reg * 8+(if o.base=-1 then 5 else o.base)) :: addB o
  else (addM o * 64+reg * 8+4) :: ((if o.index=-1 then 32 else log9 o.scale * 64+o.index * 8)+(if o.base=-1 then 5 else o.base)) :: addB o
theorem four_bytes (v:Int) (h0:0 ≤ v) (h1:v < 4294967296):four9 (v % 256) (v / 256 % 256) (v / 65536 % 256) (v / 16777216 % 256)=v:=by unfold four9;omega
theorem scale_log (s:Int) (h:s=1 ∨ s=2 ∨ s=4 ∨ s=8):scale9 (log9 s)=s:=by rcases h with rfl | rfl | rfl | rfl <;> decide
theorem scale9_ok (k:Int):scale9 k=1 ∨ scale9 k=2 ∨ scale9 k=4 ∨ scale9 k=8:=by unfold scale9;split <;> (try split) <;> (try split) <;> simp
theorem sx9_ok (c:Int) (h0:0 ≤ c) (h1:c < 256):0 ≤ sx9 c∧sx9 c < 4294967296∧sx9 (sx9 c % 256)=sx9 c:=by
  unfold sx9
  by_cases h:c < 128
  · rw [if_pos h,if_pos (by omega)];omega
  · rw [if_neg h,if_neg (by omega)];omega
theorem add_ok (o:Opd) (d0:0 ≤ o.disp) (d1:o.disp < 4294967296):more9 (addM o) (if o.base=-1 then 5 else o.base)=(addB o).length∧base9 (addM o) (if o.base=-1 then 5 else o.base)=o.base∧(0 ≤ addM o∧addM o ≤ 2) ∧
    ∀ (bs:Nat→Int) (n:Nat),(∀ i,i < (addB o).length→bs (n+i)=(addB o).getD i 0)→disp9 (addB o).length bs n=o.disp:=by
  have h4:∀ (bs:Nat→Int) (n:Nat),(∀ i,i < (bytes4 o.disp).length→bs (n+i)=(bytes4 o.disp).getD i 0)→disp9 (bytes4 o.disp).length bs n=o.disp:=fun bs n h=>by
    have e0:=h 0 (by simp [bytes4])
    have e1:=h 1 (by simp [bytes4])
    have e2:=h 2 (by simp [bytes4])
    have e3:=h 3 (by simp [bytes4])
    simp [bytes4] at e0 e1 e2 e3
    show disp9 4 bs n=_
    unfold disp9
    rw [if_neg (by omega),if_pos rfl,e0,e1,e2,e3]
    exact four_bytes _ d0 d1
  unfold addM addB
  by_cases hb:o.base=-1
  · simp only [if_pos hb]
    exact ⟨rfl,by rw [hb];rfl,by omega,h4⟩
  · simp only [if_neg hb]
    by_cases hd:o.disp=0∧o.base ≠ 5
    · simp only [if_pos hd]
      refine ⟨?_,?_,by omega,fun bs n _=>?_⟩
      · unfold more9;rw [if_pos rfl,if_neg hd.2];rfl
      · unfold base9;rw [if_neg (by rintro ⟨_,h⟩;exact hd.2 h)]
      · show disp9 0 bs n=_
        unfold disp9
        rw [if_neg (by omega),if_neg (by omega)]
        exact hd.1.symm
    · simp only [if_neg hd]
      by_cases hx:sx9 (o.disp % 256)=o.disp
      · simp only [if_pos hx]
        refine ⟨?_,?_,by omega,fun bs n h=>?_⟩
        · unfold more9;rw [if_neg (by omega),if_pos rfl];rfl
        · unfold base9;rw [if_neg (by rintro ⟨h,_⟩;omega)]
        · have e0:=h 0 (by simp)
          simp at e0
          show disp9 1 bs n=_
          unfold disp9
          rw [if_pos rfl,e0]
          exact hx
      · simp only [if_neg hx]
        refine ⟨?_,?_,by omega,h4⟩
        · unfold more9;rw [if_neg (by omega),if_neg (by omega)];rfl
        · unfold base9;rw [if_neg (by rintro ⟨h,_⟩;omega)]
theorem log9_ok (s:Int) (h:s=1 ∨ s=2 ∨ s=4 ∨ s=8):0 ≤ log9 s∧log9 s ≤ 3:=by rcases h with rfl | rfl | rfl | rfl <;> decide
theorem put_read (reg:Int) (o:Opd) (r0:0 ≤ reg) (r1:reg < 8) (d0:0 ≤ o.disp) (d1:o.disp < 4294967296) (h:memOk o) (bs:Nat→Int) (hb:∀ i,i < (putF reg o).length→bs i=(putF reg o).getD i 0) :
    rmF (putF reg o).length bs=some (o,reg,(putF reg o).length):=by
  obtain ⟨hk,hrg,hb0,hb1,hi0,hi1,hi4,hs,his⟩:=h
  obtain ⟨a1,a2,a3,a4⟩:=add_ok o d0 d1
  obtain ⟨B,hB⟩:∃ B,(if o.base=-1 then 5 else o.base)=B:=⟨_,rfl⟩
  have hB0:0 ≤ B∧B < 8:=by rw [← hB];split <;> omega
  rw [hB] at a1 a2
  by_cases hsib:o.index=-1∧o.base ≠ 4
  · have e:putF reg o=(addM o * 64+reg * 8+B) :: addB o:=by
      unfold putF
      rw [if_neg (by rw [hk];decide),if_pos hsib,hB]
    rw [e] at hb ⊢
    have h0:=hb 0 (by simp)
    simp at h0
    have q1:bs 0 / 64=addM o:=by rw [h0];omega
    have q2:bs 0 / 8 % 8=reg:=by rw [h0];omega
    have q3:bs 0 % 8=B:=by rw [h0];omega
    have hB4:B ≠ 4:=by rw [← hB];split <;> omega
    have hd:=a4 bs 1 (fun i hi=>by
      have:=hb (1+i) (by simp;omega)
      rw [this,Nat.add_comm]
      simp)
    unfold rmF
    rw [q1,q2,q3,a1,a2,hd,if_neg (by simp),if_neg (by omega),if_neg hB4,if_neg (by simp;omega)]
    have hsc:o.scale=1:=by rcases his with h | h;exact absurd hsib.1 h;exact h
    simp only [List.length_cons,Option.some.injEq,Prod.mk.injEq,true_and]
    refine ⟨?_,by omega⟩
    obtain ⟨kind,rg,base,index,scale,disp⟩:=o
    simp only at hk hrg hsc hsib ⊢
    rw [hk,hrg,hsc,hsib.1]
  · obtain ⟨T,hT⟩:∃ T,(if o.index=-1 then 32 else log9 o.scale * 64+o.index * 8)=T:=⟨_,rfl⟩
    have e:putF reg o=(addM o * 64+reg * 8+4) :: (T+B) :: addB o:=by
      unfold putF
      rw [if_neg (by rw [hk];decide),if_neg hsib,hB,hT]
    rw [e] at hb ⊢
    have h0:=hb 0 (by simp)
    have h1:=hb 1 (by simp)
    simp at h0 h1
    have q1:bs 0 / 64=addM o:=by rw [h0];omega
    have q2:bs 0 / 8 % 8=reg:=by rw [h0];omega
    have q3:bs 0 % 8=4:=by rw [h0];omega
    have hl:=log9_ok o.scale hs
    have q4:bs 1 % 8=B:=by rw [h1,← hT];split <;> omega
    have q5:sibI (bs 1)=o.index:=by
      unfold sibI
      rw [h1,← hT]
      by_cases hi:o.index=-1
      · rw [if_pos hi,if_pos (by omega),hi]
      · rw [if_neg hi,if_neg (by omega)];omega
    have q6:sibS (bs 1)=o.scale:=by
      unfold sibS
      rw [h1,← hT]
      by_cases hi:o.index=-1
      · rw [if_pos hi,if_pos (by omega)]
        rcases his with h | h
        · exact absurd hi h
        · exact h.symm
      · rw [if_neg hi,if_neg (by omega),show (log9 o.scale * 64+o.index * 8+B) / 64=log9 o.scale by omega]
        exact scale_log _ hs
    have hd:=a4 bs 2 (fun i hi=>by
      have:=hb (2+i) (by simp;omega)
      rw [this,show 2+i=i+1+1 by omega]
      simp)
    unfold rmF
    rw [q1,q2,q3,q4,q5,q6,a1,a2,hd,if_neg (by simp),if_neg (by omega),if_pos rfl,if_neg (by simp),if_neg (by simp;omega)]
    simp only [List.length_cons,Option.some.injEq,Prod.mk.injEq,true_and]
    refine ⟨?_,by omega⟩
    obtain ⟨kind,rg,base,index,scale,disp⟩:=o
    simp only at hk hrg ⊢
    rw [hk,hrg]
theorem disp9_ok (k:Nat) (bs:Nat→Int) (n:Nat) (hb:∀ i,0 ≤ bs i∧bs i < 256):0 ≤ disp9 k bs n∧disp9 k bs n < 4294967296:=by
  unfold disp9
  split
  · have:=sx9_ok (bs n) (hb n).1 (hb n).2;omega
  · split
    · unfold four9
      have:=hb n;have:=hb (n+1);have:=hb (n+2);have:=hb (n+3)
      omega
    · omega
theorem addB_len (o:Opd) (md base:Int) (bs:Nat→Int) (n:Nat) (hb:∀ i,0 ≤ bs i∧bs i < 256) (h1:o.base=base9 md base) (h2:o.disp=disp9 (more9 md base) bs n) (hbase:0 ≤ base):(addB o).length ≤ more9 md base:=by
  unfold base9 at h1
  unfold more9 at h2 ⊢
  unfold addB
  by_cases hm0:md=0
  · rw [if_pos hm0] at h2 ⊢
    by_cases hb5:base=5
    · rw [if_pos ⟨hm0,hb5⟩] at h1
      rw [if_pos hb5,if_pos h1]
      simp [bytes4]
    · rw [if_neg (by rintro ⟨_,h⟩;exact hb5 h)] at h1
      rw [if_neg hb5] at h2 ⊢
      have hz:o.disp=0:=by rw [h2];rfl
      by_cases hn:o.base=-1
      · omega
      · rw [if_neg hn,if_pos ⟨hz,by rw [h1];exact hb5⟩]
        decide
  · rw [if_neg (by rintro ⟨h,_⟩;exact hm0 h)] at h1
    rw [if_neg hm0] at h2 ⊢
    by_cases hm1:md=1
    · rw [if_pos hm1] at h2 ⊢
      have hx:sx9 (o.disp % 256)=o.disp:=by
        rw [h2]
        exact (sx9_ok (bs n) (hb n).1 (hb n).2).2.2
      by_cases hn:o.base=-1
      · omega
      · rw [if_neg hn]
        split
        · simp
        · simp
    · rw [if_neg hm1]
      split
      · simp [bytes4]
      · split
        · simp
        · split <;> simp [bytes4]
theorem read_ok {L:Nat} {bs:Nat→Int} {o:Opd} {reg:Int} {n:Nat} (hb:∀ i,0 ≤ bs i∧bs i < 256) (h:rmF L bs=some (o,reg,n)) (h3:bs 0 / 64 ≠ 3):memOk o∧(0 ≤ reg∧reg < 8)∧(0 ≤ o.disp∧o.disp < 4294967296)∧1 ≤ n∧n ≤ 6∧n ≤ L∧(putF reg o).length ≤ n:=by
  have hb0:=hb 0
  have hb1:=hb 1
  have hm4:∀ md base,more9 md base ≤ 4:=fun md base=>by unfold more9;split <;> (try split) <;> omega
  unfold rmF at h
  by_cases hL:L=0
  · rw [if_pos hL] at h;cases h
  · rw [if_neg hL,if_neg h3] at h
    by_cases hr:bs 0 % 8=4
    · rw [if_pos hr] at h
      by_cases h2:L < 2
      · rw [if_pos h2] at h;cases h
      · rw [if_neg h2] at h
        by_cases h4:L < 2+more9 (bs 0 / 64) (bs 1 % 8)
        · rw [if_pos h4] at h;cases h
        · rw [if_neg h4] at h
          simp only [Option.some.injEq,Prod.mk.injEq] at h
          obtain ⟨ho,rfl,rfl⟩:=h
          have hd:=disp9_ok (more9 (bs 0 / 64) (bs 1 % 8)) bs 2 hb
          have hal:=addB_len o (bs 0 / 64) (bs 1 % 8) bs 2 hb (by rw [← ho]) (by rw [← ho]) (by omega)
          have hm:=hm4 (bs 0 / 64) (bs 1 % 8)
          refine ⟨?_,by omega,by rw [← ho];exact hd,by omega,by omega,by omega,?_⟩
          · rw [← ho]
            refine ⟨rfl,rfl,?_,?_,?_,?_,?_,?_,?_⟩
            · show -1 ≤ base9 _ _;unfold base9;split <;> omega
            · show base9 _ _ ≤ 7;unfold base9;split <;> omega
            · show -1 ≤ sibI _;unfold sibI;split <;> omega
            · show sibI _ ≤ 7;unfold sibI;split <;> omega
            · show sibI _ ≠ 4;unfold sibI;split <;> omega
            · show sibS _=1 ∨ _;unfold sibS;split
              · exact .inl rfl
              · exact scale9_ok _
            · show sibI _ ≠ -1 ∨ sibS _=1;unfold sibI sibS;split
              · exact .inr rfl
              · exact .inl (by omega)
          · have hk:o.kind=3:=by rw [← ho]
            unfold putF
            rw [if_neg (by rw [hk];decide)]
            split <;> simp <;> omega
    · rw [if_neg hr] at h
      by_cases h4:L < 1+more9 (bs 0 / 64) (bs 0 % 8)
      · rw [if_pos h4] at h;cases h
      · rw [if_neg h4] at h
        simp only [Option.some.injEq,Prod.mk.injEq] at h
        obtain ⟨ho,rfl,rfl⟩:=h
        have hd:=disp9_ok (more9 (bs 0 / 64) (bs 0 % 8)) bs 1 hb
        have hal:=addB_len o (bs 0 / 64) (bs 0 % 8) bs 1 hb (by rw [← ho]) (by rw [← ho]) (by omega)
        have hm:=hm4 (bs 0 / 64) (bs 0 % 8)
        refine ⟨?_,by omega,by rw [← ho];exact hd,by omega,by omega,by omega,?_⟩
        · rw [← ho]
          refine ⟨rfl,rfl,?_,?_,Int.le_refl _,by show (-1:Int) ≤ 7;decide,by show (-1:Int) ≠ 4;decide,.inl rfl,.inr rfl⟩
          · show -1 ≤ base9 _ _;unfold base9;split <;> omega
          · show base9 _ _ ≤ 7;unfold base9;split <;> omega
        · have hk:o.kind=3:=by rw [← ho]
          have hi:o.index=-1:=by rw [← ho]
          have hbs:o.base ≠ 4:=by rw [← ho];show base9 _ _ ≠ 4;unfold base9;split <;> omega
          unfold putF
          rw [if_neg (by rw [hk];decide),if_pos ⟨hi,hbs⟩]
          simp
          omega
end
section
open Go.RowKit
def wid (n:Int):Nat:=if n < 2 then 8 else if n < 4 then 16 else 32
def bt (v:Int) (k:Nat):Bool:=decide (v / 2 ^ k % 2=1)
def hi (v n:Int):Bool:=bt v (wid n - 1)
def par (v:Int):Bool:=decide ((v % 2+v / 2 % 2+v / 4 % 2+v / 8 % 2+v / 16 % 2+v / 32 % 2+v / 64 % 2+v / 128 % 2) % 2=0)
/-! bits of a number of 32 bits -/
/-! what the program's own sums come to -/
theorem bcell {W w1:World} (hb:Below W.heap.size W w1):(∀ b o,b < W.heap.size→w1.cell? ⟨b,o,none⟩=W.cell? ⟨b,o,none⟩)∧(∀ b o,b < W.heap.size→w1.frozen? ⟨b,o,none⟩=W.frozen? ⟨b,o,none⟩) :=
  ⟨fun b o h=>hb.cell (p:=⟨b,o,none⟩) h,fun b o h=>hb.frozen (p:=⟨b,o,none⟩) h⟩
/-! what the document's own sums come to -/
theorem bsize {W W1:World} {o:Obj} (hb:Below (W.alloc o).heap.size (W.alloc o) W1):W.heap.size < W1.heap.size:=by
  have:=hb.size
  simp at this
  omega
theorem below_last {w W:World} (h:Below w.heap.size w W) (o:Obj):Below w.heap.size w (W.alloc o):=h.alloc h.size o
/-! what lies in a block stays there,call by call -/
theorem cell_lt {W:World} {p:Addr} {x:Value} (h:W.cell? p=some x):p.block < W.heap.size:=by
  unfold World.cell? at h
  rcases Nat.lt_or_ge p.block W.heap.size with hl | hl
  · exact hl
  · rw [Array.getElem?_eq_none hl] at h
    simp at h
theorem cell_call {W W1:World} {p:Addr} {x:Value} (hb:Below W.heap.size W W1) (h:W.cell? p=some x):W1.cell? p=some x:=by
  rw [hb.cell (cell_lt h),h]
theorem isSome_setCell (w:World) (a b:Addr) (v:Value):((w.setCell a v).cell? b).isSome=(w.cell? b).isSome:=by
  by_cases h:a=b
  · subst h
    cases hc:w.cell? a with
    | some u=>rw [World.cell?_setCell_same w a v hc];rfl
    | none =>
      cases hd:(w.setCell a v).cell? a with
      | none=>rfl
      | some u =>
        exfalso
        revert hc hd
        simp only [World.setCell,World.cell?,Array.getElem?_modify,↓reduceIte]
        cases w.heap[a.block]? with
        | none=>simp
        | some x =>
          cases x <;> simp
          cases hs:a.spot <;> simp
          intro hle;rw [Array.getElem?_eq_none (by simpa using hle)];simp
  · rw [World.cell?_setCell_other w a b v h]
end
section
open Go.RowKit Go.Maps
structure But (F:Nat→Prop) (w w':World):Prop where
  os:w'.os=w.os
  tape:w'.tape=w.tape
  output:w'.output=w.output
  size:w.heap.size ≤ w'.heap.size
  block:∀ k,k < w.heap.size→¬ F k→w'.heap[k]?=w.heap[k]?
theorem But.refl (F:Nat→Prop) (w:World):But F w w:=⟨rfl,rfl,rfl,Nat.le_refl _,fun _ _ _=>rfl⟩
theorem But.trans {F G:Nat→Prop} {a b c:World} (h:But F a b) (k:But G b c) (hG:∀ i,i < a.heap.size→G i→F i):But F a c :=
  ⟨k.os.trans h.os,k.tape.trans h.tape,k.output.trans h.output,Nat.le_trans h.size k.size,fun i hi hF=>(k.block i (Nat.lt_of_lt_of_le hi h.size) (fun hg=>hF (hG i hi hg))).trans (h.block i hi hF)⟩
theorem But.mono {F G:Nat→Prop} {a b:World} (h:But F a b) (hG:∀ i,i < a.heap.size→F i→G i):But G a b :=
  ⟨h.os,h.tape,h.output,h.size,fun i hi hn=>h.block i hi (fun hf=>hn (hG i hi hf))⟩
theorem But.of_below {F:Nat→Prop} {w w':World} (h:Below w.heap.size w w'):But F w w':=⟨h.os,h.tape,h.output,h.size,fun k hk _=>h.block k hk⟩
theorem But.alloc {F:Nat→Prop} {w w':World} (h:But F w w') (o:Obj):But F w (w'.alloc o) :=
  h.trans (But.of_below (F:=F) ((Below.refl _ _).alloc (Nat.le_refl _) _)) (fun _ _ hf=>hf)
theorem But.drew {F:Nat→Prop} {w w':World} (h:But F w w'):But F w w'.drew:=⟨h.os,h.tape,h.output,h.size,h.block⟩
theorem But.setCell {F:Nat→Prop} {w w':World} (h:But F w w') {a:Addr} (ha:a.block < w.heap.size→F a.block) (v:Value):But F w (w'.setCell a v):=by
  refine ⟨h.os,h.tape,h.output,by simpa using h.size,fun k hk hn=>?_⟩
  have hne:a.block ≠ k:=fun e=>hn (e ▸ ha (e ▸ hk))
  rw [← h.block k hk hn]
  simp [World.setCell,Array.getElem?_modify,hne]
theorem But.cell {F:Nat→Prop} {w w':World} (h:But F w w') {p:Addr} {x:Value} (hc:w.cell? p=some x) (hn:¬ F p.block):w'.cell? p=some x:=by
  rw [World.cell?_of_block (h.block p.block (cell_lt hc) hn),hc]
theorem But.frozen {F:Nat→Prop} {w w':World} (h:But F w w') {p:Addr} (hl:p.block < w.heap.size) (hn:¬ F p.block):w'.frozen? p=w.frozen? p :=
  World.frozen?_of_block (h.block p.block hl hn)
theorem But.below {F:Nat→Prop} {B:Nat} {a w w':World} (h:But F w w') (hb:Below B a w) (hF:∀ k,F k→B ≤ k) (hB:B ≤ w.heap.size):Below B a w' :=
  ⟨h.os.trans hb.os,h.tape.trans hb.tape,h.output.trans hb.output,Nat.le_trans hb.size h.size,fun k hk=>(h.block k (Nat.lt_of_lt_of_le hk hB) (fun hf=>by have:=hF k hf;omega)).trans (hb.block k hk)⟩
theorem But.owns {H:Type} {F:Nat→Prop} {w w':World} {P:Program} {k:TypeId} {R:Value→Option (DataW H × List MemPlace)} {b n:Nat} {D:DataW H} (h:But F w w') (hm:w.ownsMap P k R b n D) (hn:¬ F b):w'.ownsMap P k R b n D:=by
  have hl:=hm.lt
  obtain ⟨es,clock,hb,r⟩:=hm
  exact ⟨es,clock,(h.block b hl hn).trans hb,r⟩
end
section
open Go.ChangeShapes Go.WideShapes Go.ChangeAt Go.RowKit Go.Maps Go.Deep
def RefMap (w:World) (B n:Nat) (g:Int→Int):Prop :=
  ∃ D:DataW Unit,w.ownsMap Tryz.prog 22 (plainElem Tryz.prog 5) B n D∧(∀ a,0 ≤ a→a < 4294967296→D.atKey (.int .u32 a) (.lit (.int .u8 0))=.lit (.int .u8 (g a)))∧IsMap D∧∀ a,0 ≤ g a∧g a < 256
theorem RefMap.but {F:Nat→Prop} {w w':World} {B n:Nat} {g:Int→Int} (h:RefMap w B n g) (hb:But F w w') (hn:¬ F B):RefMap w' B n g:=by
  obtain ⟨D,hm,r⟩:=h
  exact ⟨D,hb.owns hm hn,r⟩
theorem RefMap.made (w:World):RefMap (w.alloc (.map #[] 0)) w.heap.size 0 (fun _=>0) :=
  ⟨.map [],World.ownsMap_made _ _ _ _,fun _ _ _=>rfl,isMap_empty,fun _=>⟨Int.le_refl 0,by show (0:Int) < 256;omega⟩⟩
def place (a:Int) (i:Nat):Int:=(a+i) % 4294967296
attribute [local go_sem] isSome_setCell
end
section
open Go.ChangeShapes Go.WideShapes Go.ChangeAt Go.RowKit
def Slc (k:IntKind) (w:World) (v:Value) (L:Nat) (bs:Nat→Int):Prop :=
  (v=.slice none 0 0∧L=0) ∨ ∃ ad cap,v=.slice (some ad) L cap∧L ≤ cap∧∀ i,i < L→w.cell? (ad.add i)=some (.int k (bs i))
theorem add_block (a:Addr) (i:Nat):(a.add i).block=a.block:=by unfold Addr.add;split <;> rfl
theorem Slc.but {k:IntKind} {F:Nat→Prop} {w w':World} {v:Value} {L:Nat} {bs:Nat→Int} (h:Slc k w v L bs) (hb:But F w w') (hn:0 < L→∀ j,v.ownBlock=some j→¬ F j):Slc k w' v L bs:=by
  rcases h with h | ⟨ad,cap,rfl,hl,hc⟩
  · exact .inl h
  · refine .inr ⟨ad,cap,rfl,hl,fun i hi=>hb.cell (hc i hi) ?_⟩
    rw [add_block]
    exact hn (by omega) _ rfl
theorem Slc.below {k:IntKind} {w w':World} {v:Value} {L:Nat} {bs:Nat→Int} (h:Slc k w v L bs) (hb:Below w.heap.size w w'):Slc k w' v L bs :=
  h.but (F:=fun _=>False) (But.of_below hb) (fun _ _ _ h=>h)
theorem Slc.len {k:IntKind} {w:World} {v:Value} {L:Nat} {bs:Nat→Int} (h:Slc k w v L bs):∃ a cap,v=.slice a L cap:=by
  rcases h with ⟨rfl,rfl⟩ | ⟨ad,cap,rfl,hl,hc⟩
  · exact ⟨_,_,rfl⟩
  · exact ⟨_,_,rfl⟩
theorem Slc.congr {k:IntKind} {w:World} {v:Value} {L:Nat} {bs cs:Nat→Int} (h:Slc k w v L bs) (e:∀ i,i < L→bs i=cs i):Slc k w v L cs:=by
  rcases h with h | ⟨ad,cap,rfl,hl,hc⟩
  · exact .inl h
  · exact .inr ⟨ad,cap,rfl,hl,fun i hi=>by rw [hc i hi,e i hi]⟩
def strOf (L:Nat) (bs:Nat→Int):ByteArray:=⟨((List.range L).map fun i=>UInt8.ofNat (bs i).toNat).toArray⟩
theorem Slc.str {w:World} {v:Value} {L:Nat} {bs:Nat→Int} (h:Slc .u8 w v L bs) (h8:∀ i,i < L→0 ≤ bs i∧bs i < 256):(convert 30 9 v).run Tryz.prog w=.ok (.string (strOf L bs)) w:=by
  rcases h with ⟨rfl,rfl⟩ | ⟨ad,cap,rfl,hl,hc⟩
  · rw [run_convert_bytes_string w 30 9 5 none 0 0 Tryz.underlying30 Tryz.underlying5 Tryz.underlying9]
    simp [Conv.bytesToString]
    rfl
  · have:=run_convert_bytes_back (P:=Tryz.prog) w 30 9 5 ad cap ((List.range L).map fun i=>UInt8.ofNat (bs i).toNat) Tryz.underlying30 Tryz.underlying5 Tryz.underlying9 (fun j hj=>by
      have hj':j < L:=by simpa using hj
      rw [hc j hj']
      have:=h8 j hj'
      simp
      omega)
    simpa [strOf] using this
end
section
structure Frm where
  op:Int
  cond:Int
  size:Int
  how:List UInt8
  c:Int
  deriving DecidableEq
def nilF:Frm:=⟨0,0,0,[],0⟩
def isF (c op size:Int) (how:List UInt8):Frm × Bool × Bool:=(⟨op,0,size,how,c % 8⟩,op != 0,false)
def grpF (l:List Int) (reg:Int):Int:=l.getD reg.toNat 0
def byF (c reg:Int) (l:List Int) (size:Int) (how:List UInt8):Frm × Bool × Bool:=if reg < 0 then (nilF,false,true) else isF c (grpF l reg) size how
def alus:List Int:=[1,2,3,4,5,6,7,8]
def shfs:List Int:=[26,27,0,0,28,29,0,30]
def firstF (c reg:Int) (m3:Bool):Frm × Bool × Bool :=
  let s:=1+3 * (c % 2)
  if c < 64∧c % 8 < 6 then isF c (grpF alus (c / 8)) ([1,4,1,4,1,4].getD (c % 8).toNat 0) ([[69,71],[69,71],[71,69],[71,69],[97,73],[97,73]].getD (c % 8).toNat [])
  else if 64 ≤ c∧c < 72 then isF c 16 4 [114]
  else if 72 ≤ c∧c < 80 then isF c 17 4 [114]
  else if 80 ≤ c∧c < 88 then isF c 23 4 [114]
  else if 88 ≤ c∧c < 96 then isF c 24 4 [114]
  else if 112 ≤ c∧c < 128 then (⟨31,c % 16,0,[98],c % 8⟩,true,false)
  else if 145 ≤ c∧c < 152 then isF c 22 4 [97,114]
  else if 176 ≤ c∧c < 184 then isF c 18 1 [114,73]
  else if 184 ≤ c∧c < 192 then isF c 18 4 [114,73]
  else if c=0x68 then isF c 23 4 [73]
  else if c=0x6a then isF c 23 4 [98]
  else if c=0x69 then (⟨25,1,4,[71,69,76],c % 8⟩,true,false)
  else if c=0x6b then (⟨25,1,4,[71,69,66],c % 8⟩,true,false)
  else if c=0x80 then byF c reg alus 1 [69,73]
  else if c=0x81 then byF c reg alus 4 [69,73]
  else if c=0x83 then byF c reg alus 4 [69,98]
  else if c=0x84 ∨ c=0x85 then isF c 9 s [69,71]
  else if c=0x86 ∨ c=0x87 then isF c 22 s [69,71]
  else if c=0x88 ∨ c=0x89 then isF c 18 s [69,71]
  else if c=0x8a ∨ c=0x8b then isF c 18 s [71,69]
  else if c=0x8d then (if reg < 0 then (nilF,false,true) else (⟨21,0,4,[71,69],c % 8⟩,!m3,false))
  else if c=0x8f then byF c reg [24] 4 [69]
  else if c=0x90 then isF c 50 0 []
  else if c=0x98 then isF c 37 0 []
  else if c=0x99 then isF c 38 0 []
  else if c=0xa0 ∨ c=0xa1 then isF c 18 s [97,109]
  else if c=0xa2 ∨ c=0xa3 then isF c 18 s [109,97]
  else if c=0xa4 ∨ c=0xa5 then isF c 46 s []
  else if c=0xa8 ∨ c=0xa9 then isF c 9 s [97,73]
  else if c=0xaa ∨ c=0xab then isF c 47 s []
  else if c=0xac ∨ c=0xad then isF c 48 s []
  else if c=0xc1 then byF c reg shfs 4 [69,98]
  else if c=0xd1 then byF c reg shfs 4 [69,49]
  else if c=0xd3 then byF c reg shfs 4 [69,99]
  else if c=0xc2 then isF c 34 0 [119]
  else if c=0xc3 then isF c 34 0 []
  else if c=0xc6 ∨ c=0xc7 then byF c reg [18] s [69,73]
  else if c=0xc9 then isF c 49 0 []
  else if c=0xcc then isF c 40 0 []
  else if c=0xf4 then isF c 39 0 []
  else if c=0xe8 then isF c 33 0 [105]
  else if c=0xe9 then isF c 32 0 [105]
  else if c=0xeb then isF c 32 0 [98]
  else if c=0xf5 then isF c 43 0 []
  else if c=0xf8 then isF c 41 0 []
  else if c=0xf9 then isF c 42 0 []
  else if c=0xfc then isF c 44 0 []
  else if c=0xfd then isF c 45 0 []
  else if c=0xf6 then (if reg=0 then isF c 9 1 [69,73] else byF c reg [0,0,10,11] 1 [69])
  else if c=0xf7 then (if reg=0 then isF c 9 4 [69,73] else byF c reg [0,0,10,11,12,13,14,15] 4 [69])
  else if c=0xfe then byF c reg [16,17] 1 [69]
  else if c=0xff then byF c reg [16,17,33,0,32,0,23] 4 [69]
  else (nilF,false,false)
end
end Go.Proofs.YtlnahkkemjgjbaaGreat
